/- What is proved on the way to the statement, part 12 of 13: contracts of the functions, among other things in memory. -/
import Derived.Test.YtnnjanaclgjneaaGreatDoorE11
import Derived.Test.YtnnjanaclgjneaaGreatDoorChecked
import Derived.Deep.MidRow
import Derived.LoopIn

/- A Find that goes on alone down a skip list without marks, by plain mathematics: how many steps it has left. -/
namespace Go.Proofs.YtnnjanaclgjneaaGreatDoor
open Go.RowKit Go.Maps
set_option maxRecDepth 100000

/-- What lies ahead, at a level; no link has a mark. -/
def ChL (f : Plc → Int) (lv : Int) : Plc → List Nd → Prop
  | p, [] => slotI (f p) = 0 ∧ markB (f p) = false
  | p, n :: r => slotI (f p) = n.s ∧ markB (f p) = false ∧ f (5, n.s, 3) = n.key ∧ ChL f lv (5, n.s, 7 + lv) r
theorem ChL.mk {f : Plc → Int} {lv : Int} : ∀ {p : Plc} {ns : List Nd}, ChL f lv p ns → markB (f p) = false
  | _, [], h => h.2
  | _, _ :: _, h => h.2.1
/-- How many are looked at. -/
def cntT (K : Int) : List Nd → Nat
  | [] => 0
  | n :: r => if n.key < K then cntT K r + 1 else 1
/-- The last one that is passed. -/
def nxtT (K : Int) : Option Nd → List Nd → Option Nd
  | d, [] => d
  | d, n :: r => if n.key < K then nxtT K (some n) r else d
theorem nxtT_mem {K : Int} {Q : Nd → Prop} : ∀ {ns : List Nd} {d : Option Nd}, (∀ n, d = some n → Q n) → (∀ n ∈ ns, Q n) → ∀ n, nxtT K d ns = some n → Q n
  | [], d, h, _, n, e => h n e
  | m :: r, d, h, h2, n, e => by
    unfold nxtT at e
    by_cases hk : m.key < K
    · rw [if_pos hk] at e
      exact nxtT_mem (fun x hx => by cases hx; exact h2 m (List.mem_cons_self ..)) (fun x hx => h2 x (List.mem_cons_of_mem _ hx)) n e
    · rw [if_neg hk] at e
      exact h n e
/-- Whose link comes next, at a level. -/
def posT (lv : Int) : Option Nd → Plc
  | none => (4, 0, lv)
  | some n => (5, n.s, 7 + lv)
theorem posT_below (lv : Int) (d : Option Nd) : belowP (posT lv d) = posT (lv - 1) d := by
  cases d with
  | none => rfl
  | some n => unfold belowP posT; simp; omega
/-- How a lane stands; how many steps it has left. -/
def LaT (lv key : Int) (L : Lm) (f : Plc → Int) (d : Option Nd) (ns : List Nd) (mu : Nat) : Prop :=
  L.p = posT lv d ∧ ChL f lv L.p ns ∧ (∀ n ∈ ns, 1 ≤ n.s) ∧ (
    (L.pc = 0 ∧ mu = 4 * cntT key ns + 2) ∨
    (L.pc = 2 ∧ L.W = f L.p ∧ mu = 4 * cntT key ns + 1) ∨
    (∃ n r, ns = n :: r ∧ L.C = n.s ∧ (
      (L.pc = 3 ∧ mu = 4 * cntT key ns) ∨
      (L.pc = 4 ∧ L.X = f (5, n.s, 7 + lv) ∧ mu + 1 = 4 * cntT key ns) ∨
      (L.pc = 6 ∧ L.X = f (5, n.s, 7 + lv) ∧ mu + 2 = 4 * cntT key ns) ∨
      (L.pc = 7 ∧ L.X = f (5, n.s, 7 + lv) ∧ L.K = n.key ∧ mu + 3 = 4 * cntT key ns))))
theorem LaT.pc5 {lv key : Int} {L : Lm} {f : Plc → Int} {d : Option Nd} {ns : List Nd} {mu : Nat} (h : LaT lv key L f d ns mu) : L.pc ≠ 5 := by
  obtain ⟨-, -, -, h | h | ⟨n, r, -, -, h | h | h | h⟩⟩ := h
  all_goals
    have h1 := h.1
    omega
theorem come_t {lv key : Int} {L : Lm} {f : Plc → Int} {d : Option Nd} {ns : List Nd} {W : Int} (hp : L.p = posT lv d) (hc : ChL f lv L.p ns) (hs : ∀ n ∈ ns, 1 ≤ n.s) (hW : W = f L.p) :
    ((comeM L W).1 = 0 ∧ ns ≠ [] ∧ LaT lv key (comeM L W).2 f d ns (4 * cntT key ns)) ∨ ((comeM L W).1 = 1 ∧ ns = [] ∧ (comeM L W).2.p = posT lv d) := by
  match ns, hc with
  | [], hc =>
    right
    have h0 : slotI W = 0 := by rw [hW]; exact hc.1
    unfold comeM
    rw [if_pos h0]
    exact ⟨rfl, rfl, hp⟩
  | n :: r, hc =>
    left
    have h1 : slotI W = n.s := by rw [hW]; exact hc.1
    have h2 := hs n (List.mem_cons_self ..)
    unfold comeM
    rw [if_neg (by rw [h1]; omega)]
    exact ⟨rfl, by simp, hp, hc, hs, .inr (.inr ⟨n, r, rfl, h1, .inl ⟨rfl, rfl⟩⟩)⟩

theorem lat_step {lv key e : Int} {L : Lm} {f : Plc → Int} {d : Option Nd} {ns : List Nd} {mu : Nat} (hok : okB (f (1, 0, 0)) e = true) (h : LaT lv key L f d ns mu) :
    ((laneM lv key false e L f).1 = 0 ∧ (laneM lv key false e L f).2.2 = f ∧ ∃ d' ns' mu', LaT lv key (laneM lv key false e L f).2.1 f d' ns' mu' ∧ mu = mu' + 1 ∧ nxtT key d' ns' = nxtT key d ns ∧ (∀ Q : Nd → Prop, (∀ n, d = some n → Q n) → (∀ n ∈ ns, Q n) → (∀ n, d' = some n → Q n) ∧ (∀ n ∈ ns', Q n))) ∨
    ((laneM lv key false e L f).1 = 1 ∧ (laneM lv key false e L f).2.2 = f ∧ mu = 1 ∧ (laneM lv key false e L f).2.1.p = posT lv (nxtT key d ns)) := by
  obtain ⟨hp, hc, hs, h⟩ := h
  have same : ∀ Q : Nd → Prop, (∀ n, d = some n → Q n) → (∀ n ∈ ns, Q n) → (∀ n, d = some n → Q n) ∧ (∀ n ∈ ns, Q n) := fun Q h1 h2 => ⟨h1, h2⟩
  rcases h with ⟨hpc, hmu⟩ | ⟨hpc, hW, hmu⟩ | ⟨n, r, hns, hC, h⟩
  · have hM : laneM lv key false e L f = (0, { L with W := f L.p, pc := 2 }, f) := by simp [laneM, hpc]
    rw [hM]
    exact .inl ⟨rfl, rfl, d, ns, _, ⟨hp, hc, hs, .inr (.inl ⟨rfl, rfl, rfl⟩)⟩, by omega, rfl, same⟩
  · have hM : laneM lv key false e L f = ((comeM L L.W).1, (comeM L L.W).2, f) := by
      have : markB L.W = false := by rw [hW]; exact hc.mk
      simp [laneM, holdsM, hpc, hok, this]
    rw [hM]
    rcases come_t (key := key) hp hc hs hW with ⟨h1, -, h2⟩ | ⟨h1, h2, h3⟩
    · exact .inl ⟨h1, rfl, d, ns, _, h2, by omega, rfl, same⟩
    · subst h2
      exact .inr ⟨h1, rfl, by simpa [cntT] using hmu, h3⟩
  · subst hns
    obtain ⟨c1, c2, c3, c4⟩ := hc
    have hc : ChL f lv L.p (n :: r) := ⟨c1, c2, c3, c4⟩
    rcases h with ⟨hpc, hmu⟩ | ⟨hpc, hX, hmu⟩ | ⟨hpc, hX, hmu⟩ | ⟨hpc, hX, hK, hmu⟩
    · have hM : laneM lv key false e L f = (0, { L with X := f (5, n.s, 7 + lv), pc := 4 }, f) := by rw [← hC]; simp [laneM, hpc]
      rw [hM]
      have hcn : 1 ≤ cntT key (n :: r) := by unfold cntT; split <;> omega
      exact .inl ⟨rfl, rfl, d, n :: r, 4 * cntT key (n :: r) - 1, ⟨hp, hc, hs, .inr (.inr ⟨n, r, rfl, hC, .inr (.inl ⟨rfl, rfl, by omega⟩)⟩)⟩, by omega, rfl, same⟩
    · have hmk : markB L.X = false := by rw [hX]; exact c4.mk
      have hM : laneM lv key false e L f = (0, { L with pc := 6 }, f) := by simp [laneM, holdsM, hpc, hok, hmk]
      rw [hM]
      have hcn : 1 ≤ cntT key (n :: r) := by unfold cntT; split <;> omega
      exact .inl ⟨rfl, rfl, d, n :: r, 4 * cntT key (n :: r) - 2, ⟨hp, hc, hs, .inr (.inr ⟨n, r, rfl, hC, .inr (.inr (.inl ⟨rfl, hX, by omega⟩))⟩)⟩, by omega, rfl, same⟩
    · have hM : laneM lv key false e L f = (0, { L with K := n.key, pc := 7 }, f) := by rw [← c3, ← hC]; simp [laneM, hpc]
      rw [hM]
      have hcn : 1 ≤ cntT key (n :: r) := by unfold cntT; split <;> omega
      exact .inl ⟨rfl, rfl, d, n :: r, 4 * cntT key (n :: r) - 3, ⟨hp, hc, hs, .inr (.inr ⟨n, r, rfl, hC, .inr (.inr (.inr ⟨rfl, hX, rfl, by omega⟩))⟩)⟩, by omega, rfl, same⟩
    · by_cases hlt : n.key < key
      · have hM : laneM lv key false e L f = ((comeM { L with p := (5, n.s, 7 + lv) } L.X).1, (comeM { L with p := (5, n.s, 7 + lv) } L.X).2, f) := by
          rw [← hC]
          simp [laneM, holdsM, hpc, hok, hK, hlt]
        rw [hM]
        have hcn : cntT key (n :: r) = cntT key r + 1 := by rw [cntT, if_pos hlt]
        have hnx : nxtT key d (n :: r) = nxtT key (some n) r := by rw [nxtT, if_pos hlt]
        rcases come_t (key := key) (L := { L with p := (5, n.s, 7 + lv) }) (d := some n) rfl c4 (fun m hm => hs m (List.mem_cons_of_mem _ hm)) hX with ⟨h1, -, h2⟩ | ⟨h1, h2, h3⟩
        · exact .inl ⟨h1, rfl, some n, r, _, h2, by omega, hnx.symm, fun Q _ q2 => ⟨fun m hm => by cases hm; exact q2 n (List.mem_cons_self ..), fun m hm => q2 m (List.mem_cons_of_mem _ hm)⟩⟩
        · subst h2
          rw [hnx]
          exact .inr ⟨h1, rfl, by rw [hcn] at hmu; simp only [cntT] at hmu; omega, h3⟩
      · have hcn : cntT key (n :: r) = 1 := by rw [cntT, if_neg hlt]
        have hnx : nxtT key d (n :: r) = d := by rw [nxtT, if_neg hlt]
        rw [hnx]
        by_cases heq : n.key = key
        · have hM : laneM lv key false e L f = (1, { L with fd := true }, f) := by simp [laneM, holdsM, hpc, hok, hK, heq]
          rw [hM]
          exact .inr ⟨rfl, rfl, by omega, hp⟩
        · have hM : laneM lv key false e L f = (1, L, f) := by simp [laneM, holdsM, hpc, hok, hK, hlt, heq]
          rw [hM]
          exact .inr ⟨rfl, rfl, by omega, hp⟩

/-- What of a level stands behind one. -/
def restT (l : List Nd) (d : Option Nd) : List Nd := match d with | none => l | some n => l.filter fun m => n.key < m.key
theorem restT_mem {l : List Nd} {d : Option Nd} {n : Nd} (h : n ∈ restT l d) : n ∈ l := by
  cases d with
  | none => exact h
  | some m => exact (List.mem_filter.1 h).1
/-- How many steps it is from a level's lane on. -/
def costT (lev : Nat → List Nd) (K : Int) : Nat → Option Nd → Nat
  | 0, d => 4 * cntT K (restT (lev 0) d) + 2
  | k + 1, d => 4 * cntT K (restT (lev (k + 1)) d) + 2 + costT lev K k (nxtT K d (restT (lev (k + 1)) d))
def lowT (lev : Nat → List Nd) (K : Int) (k : Nat) (d : Option Nd) : Nat := match k with | 0 => 0 | k + 1 => costT lev K k d
theorem costT_eq (lev : Nat → List Nd) (K : Int) (k : Nat) (d : Option Nd) : costT lev K k d = 4 * cntT K (restT (lev k) d) + 2 + lowT lev K k (nxtT K d (restT (lev k) d)) := by cases k <;> rfl
theorem ChL.rest {f : Plc → Int} {lv : Int} {n : Nd} : ∀ {ns : List Nd} {p : Plc}, ChL f lv p ns → ns.Pairwise (fun a b => a.key < b.key) → n ∈ ns → ChL f lv (5, n.s, 7 + lv) (ns.filter fun m => n.key < m.key)
  | [], _, _, _, h => by cases h
  | m :: r, _, ⟨_, _, _, h4⟩, hp, h => by
    obtain ⟨h1, h2⟩ := List.pairwise_cons.1 hp
    rcases List.mem_cons.1 h with rfl | hm
    · rw [List.filter_cons_of_neg (by simp), List.filter_eq_self.2 (fun a ha => by simpa using h1 a ha)]
      exact h4
    · have := h1 n hm
      rw [List.filter_cons_of_neg (by simp; omega)]
      exact h4.rest h2 hm
/-- A skip list that lies in the memory, level by level. -/
structure SkT (lev : Nat → List Nd) (h : Nat) (f : Plc → Int) : Prop where
  ep : f (1, 0, 0) = 5
  ch : ∀ k, k < h → ChL f k (4, 0, k) (lev k)
  up : ∀ k, k < h → (lev k).Pairwise fun a b => a.key < b.key
  sub : ∀ k, k + 1 < h → ∀ n ∈ lev (k + 1), n ∈ lev k
  pos : ∀ k, k < h → ∀ n ∈ lev k, 1 ≤ n.s
theorem SkT.at {lev : Nat → List Nd} {h : Nat} {f : Plc → Int} (H : SkT lev h f) {k : Nat} (hk : k < h) {d : Option Nd} (hd : ∀ n, d = some n → n ∈ lev k) : ChL f k (posT k d) (restT (lev k) d) := by
  cases d with
  | none => exact H.ch k hk
  | some n => exact (H.ch k hk).rest (H.up k hk) (hd n rfl)
/-- How a Find stands; how many steps it has left. -/
def FiT (lev : Nat → List Nd) (h : Nat) (key : Int) (F : Fm) (f : Plc → Int) (mu : Nat) : Prop :=
  (F.on = false ∧ mu = costT lev key (h - 1) none + 1) ∨
  (F.on = true ∧ F.lv < h ∧ F.e = 5 ∧ ∃ d ns m1, (∀ n, d = some n → n ∈ lev F.lv) ∧ (∀ n ∈ ns, n ∈ lev F.lv) ∧ LaT F.lv key (F.L F.lv) f d ns m1 ∧ mu = m1 + lowT lev key F.lv (nxtT key d ns))
theorem lat_start {lev : Nat → List Nd} {h : Nat} {f : Plc → Int} (H : SkT lev h f) {k : Nat} (hk : k < h) {d : Option Nd} (hd : ∀ n, d = some n → n ∈ lev k) (key : Int) : LaT k key (L0 (posT k d)) f d (restT (lev k) d) (4 * cntT key (restT (lev k) d) + 2) :=
  ⟨rfl, H.at hk hd, fun n hn => H.pos k hk n (restT_mem hn), .inl ⟨rfl, rfl⟩⟩
theorem fit_step {lev : Nat → List Nd} {h : Nat} {key : Int} {F : Fm} {f : Plc → Int} {mu : Nat} (hh : 1 ≤ h) (H : SkT lev h f) (hF : FiT lev h key F f mu) :
    (F.on = true → (F.L F.lv).pc ≠ 5) ∧ (downM h key F f).2.2 = f ∧ (((downM h key F f).1 = 0 ∧ ∃ mu', FiT lev h key (downM h key F f).2.1 f mu' ∧ mu = mu' + 1) ∨ ((downM h key F f).1 = 1 ∧ mu = 1)) := by
  rcases hF with ⟨hoff, hmu⟩ | ⟨hon, hlt, he, d, ns, m1, hd, hns, hL, hmu⟩
  · refine ⟨fun h => absurd h (by rw [hoff]; decide), ?_⟩
    unfold downM
    rw [if_neg (by rw [hoff]; decide)]
    refine ⟨rfl, .inl ⟨rfl, costT lev key (h - 1) none, .inr ⟨rfl, ?_, ?_, none, lev (h - 1), 4 * cntT key (lev (h - 1)) + 2, by simp, fun n hn => hn, ?_, ?_⟩, hmu⟩⟩
    · show h - 1 < h
      omega
    · show epI (f (1, 0, 0)) = 5
      rw [H.ep]
      decide
    · show LaT _ key (setN (α := Lm) _ _ _ (h - 1)) f none _ _
      rw [setN_same]
      exact lat_start H (show h - 1 < h by omega) (d := none) (by simp) key
    · exact costT_eq lev key (h - 1) none
  · refine ⟨fun _ => hL.pc5, ?_⟩
    have hok : okB (f (1, 0, 0)) F.e = true := by rw [H.ep, he]; decide
    unfold downM
    rw [if_pos hon]
    dsimp only
    rcases lat_step hok hL with ⟨h1, h2, d', ns', mu', h3, h4, h5, h6⟩ | ⟨h1, h2, h3, h4⟩
    · obtain ⟨q1, q2⟩ := h6 (fun n => n ∈ lev F.lv) hd hns
      rw [if_neg (by rw [h1]; simp), if_neg (by rw [h1]; decide), if_neg (by rw [h1]; simp), h2]
      refine ⟨rfl, .inl ⟨rfl, mu' + lowT lev key F.lv (nxtT key d' ns'), .inr ⟨hon, hlt, he, d', ns', mu', q1, q2, ?_, rfl⟩, by rw [hmu, h4, h5]; omega⟩⟩
      show LaT _ key (setN (α := Lm) _ _ _ F.lv) f d' ns' mu'
      rw [setN_same]
      exact h3
    · have hm := nxtT_mem (K := key) (Q := fun n => n ∈ lev F.lv) hd hns
      by_cases h0 : F.lv = 0
      · rw [if_pos ⟨h1, h0⟩, h2]
        refine ⟨rfl, .inr ⟨rfl, ?_⟩⟩
        rw [hmu, h3, h0]
        rfl
      · obtain ⟨k, hk⟩ : ∃ k, F.lv = k + 1 := ⟨F.lv - 1, by omega⟩
        rw [if_neg (fun hx => h0 hx.2), if_neg (by rw [h1]; decide), if_pos ⟨h1, h0⟩, h2]
        have hkk : F.lv - 1 = k := by omega
        have hd2 : ∀ n, nxtT key d ns = some n → n ∈ lev k := fun n hn => H.sub k (by omega) n (by rw [← hk]; exact hm n hn)
        refine ⟨rfl, .inl ⟨rfl, costT lev key k (nxtT key d ns), .inr ⟨hon, ?_, he, nxtT key d ns, restT (lev k) (nxtT key d ns), 4 * cntT key (restT (lev k) (nxtT key d ns)) + 2, ?_, ?_, ?_, ?_⟩, ?_⟩⟩
        · show F.lv - 1 < h
          omega
        · show ∀ n, _ → n ∈ lev (F.lv - 1)
          rw [hkk]
          exact hd2
        · show ∀ n ∈ _, n ∈ lev (F.lv - 1)
          rw [hkk]
          exact fun n hn => restT_mem hn
        · show LaT ((F.lv - 1 : Nat) : Int) key (setN (α := Lm) _ _ _ (F.lv - 1)) f _ _ _
          rw [setN_same, h4, posT_below, hkk, show ((F.lv : Int) - 1) = (k : Int) by omega]
          exact lat_start H (show k < h by omega) hd2 key
        · show _ = _ + lowT lev key (F.lv - 1) _
          rw [hkk]
          exact costT_eq lev key k _
        · rw [hmu, h3, hk]
          show 1 + costT lev key k _ = _
          omega
end Go.Proofs.YtnnjanaclgjneaaGreatDoor

/- A skip list that is laid, level by level: what lies in the memory. -/
namespace Go.Proofs.YtnnjanaclgjneaaGreatDoor
open Go.RowKit Go.Maps
set_option maxRecDepth 100000

/-- A slot that stands in a skip list. -/
structure Nt where
  (s key top marks : Int)
instance : Inhabited Nt := ⟨⟨0, 0, 0, 0⟩⟩
def encT (n : Nt) : List Value := [.int .i64 n.s, .int .u64 n.key, .int .i64 n.top, .int .i64 n.marks]
/-- A bit of a number. -/
def halfT (n : Int) : Nat → Int
  | 0 => n
  | k + 1 => (halfT n k).tdiv 2
def bitT (n : Int) (k : Nat) : Bool := (halfT n k).tmod 2 == 1
/-- What stands at a level. -/
def ndT (k : Nat) (n : Nt) : Nd := ⟨n.s, n.key, 0, bitT n.marks k⟩
def lvT (l : List Nt) (k : Nat) : List Nd := (l.filter fun n => (k : Int) < n.top).map (ndT k)
/-- The memory with so many levels. -/
def layH (l : List Nt) : Nat → List OneR
  | 0 => []
  | k + 1 => layL k 5 (lvT l k) (4, 0, k) false (setL (layH l k) (1, 0, 0) 5)
theorem lvT_length (l : List Nt) (k : Nat) : (lvT l k).length ≤ l.length := by
  unfold lvT
  rw [List.length_map]
  exact List.length_filter_le _ _
theorem layH_length (l : List Nt) (hl : l.length ≤ 30) : ∀ k, (layH l k).length ≤ 92 * k
  | 0 => by simp [layH]
  | k + 1 => by
    have h1 := layL_length k 5 (lvT l k) (4, 0, k) false (setL (layH l k) (1, 0, 0) 5)
    have h2 := setL_length (1, 0, 0) 5 (layH l k)
    have h3 := lvT_length l k
    have h4 := layH_length l hl k
    show (layL _ _ _ _ _ _).length ≤ _
    omega
def NtOk (h : Nat) (n : Nt) : Prop := (1 ≤ n.s ∧ n.s ≤ 1000) ∧ InU n.key ∧ (1 ≤ n.top ∧ n.top ≤ h) ∧ (0 ≤ n.marks ∧ n.marks ≤ 65535)
theorem lvT_ok {h : Nat} {l : List Nt} (hl : ∀ n ∈ l, NtOk h n) (k : Nat) : ∀ n ∈ lvT l k, NdOk n := by
  intro n hn
  obtain ⟨m, hm, rfl⟩ := List.mem_map.1 hn
  have := hl m (List.mem_filter.1 hm).1
  exact ⟨this.1, this.2.1, by simp [ndT, InU]⟩
theorem layH_words {h : Nat} {l : List Nt} (hl : ∀ n ∈ l, NtOk h n) : ∀ k, k ≤ 1000 → Words (getL (layH l k))
  | 0, _ => Words.zero
  | k + 1, hk => words_lay (lv := k) (e := 5) (by omega) (lvT l k) _ _ _ (lvT_ok hl k) (by unfold Wf In64; simp; omega) ((layH_words hl k (by omega)).setL (by unfold Wf In64; simp) (by simp [InU]))

theorem setL_at' (l : List OneR) (p : Plc) (v : Int) (x : Plc) : getL (setL l p v) x = if x = p then v else getL l x := by rw [getL_set]; rfl
theorem lnk5 {s : Int} (h : 0 ≤ s ∧ s ≤ 1000) : slotI (lnk false s 5) = s ∧ markB (lnk false s 5) = false := by
  have hL : isL s 5 = true := isL_mk h.1 (by omega) (by decide) (by decide)
  exact ⟨slot_word hL, mark_word hL⟩
/-- A cell that is no key's, no value's. -/
def NoKV' (q : Plc) : Prop := ∀ s : Int, ((5, s, 3) : Plc) ≠ q ∧ ((5, s, 4) : Plc) ≠ q
theorem lay_chL (lv : Int) (h0 : 0 ≤ lv) : ∀ (ns : List Nd) (p : Plc) (l : List OneR), (ns.map (·.s)).Nodup → (∀ n ∈ ns, (1 ≤ n.s ∧ n.s ≤ 1000) ∧ n.mb = false) → NoKV' p → (∀ n ∈ ns, p ≠ (5, n.s, 7 + lv)) →
    (∀ x, x ≠ p → (∀ n ∈ ns, x ≠ (5, n.s, 3) ∧ x ≠ (5, n.s, 4) ∧ x ≠ (5, n.s, 7 + lv)) → getL (layL lv 5 ns p false l) x = getL l x) ∧ ChL (getL (layL lv 5 ns p false l)) lv p ns
  | [], p, l, _, _, _, _ => by
    have h := lnk5 (s := 0) (by omega)
    refine ⟨fun x hx _ => by show getL (setL _ _ _) x = _; rw [setL_at', if_neg hx], ?_, ?_⟩
    · show slotI (getL (setL _ _ _) p) = 0; rw [setL_at', if_pos rfl]; exact h.1
    · show markB (getL (setL _ _ _) p) = false; rw [setL_at', if_pos rfl]; exact h.2
  | n :: r, p, l, hn, hr, hp, ho => by
    rw [List.map_cons, List.nodup_cons] at hn
    obtain ⟨hn1, hn2⟩ := hn
    have hnr : ∀ m ∈ r, n.s ≠ m.s := fun m hm e => hn1 (by rw [e]; exact List.mem_map.2 ⟨m, hm, rfl⟩)
    obtain ⟨hnm, hmb⟩ := hr n (List.mem_cons_self ..)
    have h := lnk5 (s := n.s) (by omega)
    obtain ⟨l3, hl3⟩ : ∃ l3, setL (setL (setL l p (lnk false n.s 5)) (5, n.s, 3) n.key) (5, n.s, 4) n.val = l3 := ⟨_, rfl⟩
    have hlk : NoKV' (5, n.s, 7 + lv) := fun s => ⟨by simp; omega, by simp; omega⟩
    obtain ⟨i1, i2⟩ := lay_chL lv h0 r (5, n.s, 7 + lv) l3 hn2 (fun m hm => hr m (List.mem_cons_of_mem _ hm)) hlk (fun m hm => by simpa using hnr m hm)
    have hgo : layL lv 5 (n :: r) p false l = layL lv 5 r (5, n.s, 7 + lv) false l3 := by rw [← hl3, ← hmb]; rfl
    rw [hgo]
    have h3 : ∀ x, getL l3 x = if x = (5, n.s, 4) then n.val else if x = (5, n.s, 3) then n.key else if x = p then lnk false n.s 5 else getL l x := fun x => by rw [← hl3, setL_at', setL_at', setL_at']
    have hpp : getL (layL lv 5 r (5, n.s, 7 + lv) false l3) p = lnk false n.s 5 := by
      rw [i1 p (ho n (List.mem_cons_self ..)) fun m hm => ⟨(hp m.s).1.symm, (hp m.s).2.symm, ho m (List.mem_cons_of_mem _ hm)⟩, h3, if_neg (hp n.s).2.symm, if_neg (hp n.s).1.symm, if_pos rfl]
    have hkk : getL (layL lv 5 r (5, n.s, 7 + lv) false l3) (5, n.s, 3) = n.key := by
      rw [i1 _ (by simp; omega) fun m hm => ⟨by simpa using hnr m hm, by simp, by simp; omega⟩, h3, if_neg (by simp), if_pos rfl]
    refine ⟨fun x hx hxo => ?_, ⟨by rw [hpp]; exact h.1, by rw [hpp]; exact h.2, hkk, i2⟩⟩
    obtain ⟨a1, a2, a3⟩ := hxo n (List.mem_cons_self ..)
    rw [i1 x a3 fun m hm => hxo m (List.mem_cons_of_mem _ hm), h3, if_neg a2, if_neg a1, if_neg hx]
theorem ChL.key {f : Plc → Int} {lv : Int} : ∀ {ns : List Nd} {p : Plc}, ChL f lv p ns → ∀ n ∈ ns, f (5, n.s, 3) = n.key
  | [], _, _, n, h => by cases h
  | m :: r, _, ⟨_, _, h3, h4⟩, n, h => by
    rcases List.mem_cons.1 h with rfl | hm
    · exact h3
    · exact h4.key n hm
theorem ChL.other {f g : Plc → Int} {lv : Int} : ∀ {ns : List Nd} {p : Plc}, ChL f lv p ns → g p = f p → (∀ n ∈ ns, g (5, n.s, 3) = n.key ∧ g (5, n.s, 7 + lv) = f (5, n.s, 7 + lv)) → ChL g lv p ns
  | [], _, h, hp, _ => by
    show slotI _ = 0 ∧ markB _ = false
    rw [hp]
    exact h
  | n :: r, _, ⟨h1, h2, h3, h4⟩, hp, ha => by
    obtain ⟨a1, a2⟩ := ha n (List.mem_cons_self ..)
    exact ⟨by rw [hp]; exact h1, by rw [hp]; exact h2, a1, h4.other a2 fun m hm => ha m (List.mem_cons_of_mem _ hm)⟩
/-- Slots that can be, each once, by rising keys. -/
structure SortT (h : Nat) (l : List Nt) : Prop where
  ok : ∀ n ∈ l, NtOk h n
  nd : (l.map (·.s)).Nodup
  up : l.Pairwise fun a b => a.key < b.key
theorem halfT_zero : ∀ k, halfT 0 k = 0
  | 0 => rfl
  | k + 1 => by show (halfT 0 k).tdiv 2 = 0; rw [halfT_zero k]; rfl
theorem bitT_zero (k : Nat) : bitT 0 k = false := by unfold bitT; rw [halfT_zero]; rfl
theorem nodup_inj {l : List Nt} (h : (l.map (·.s)).Nodup) {a b : Nt} (ha : a ∈ l) (hb : b ∈ l) (e : a.s = b.s) : a = b := by
  induction l with
  | nil => cases ha
  | cons c r ih =>
    rw [List.map_cons, List.nodup_cons] at h
    rcases List.mem_cons.1 ha with h1 | h1 <;> rcases List.mem_cons.1 hb with h2 | h2
    · rw [h1, h2]
    · exact absurd (List.mem_map.2 ⟨b, h2, by rw [← e, h1]⟩) h.1
    · exact absurd (List.mem_map.2 ⟨a, h1, by rw [e, h2]⟩) h.1
    · exact ih h.2 h1 h2
section
variable {h : Nat} {l : List Nt}
theorem lvT_mem {k : Nat} {n : Nd} (hn : n ∈ lvT l k) : ∃ m ∈ l, (k : Int) < m.top ∧ n = ndT k m := by
  obtain ⟨m, hm, rfl⟩ := List.mem_map.1 hn
  obtain ⟨h1, h2⟩ := List.mem_filter.1 hm
  exact ⟨m, h1, by simpa using h2, rfl⟩
theorem lvT_nd (H : SortT h l) (k : Nat) : ((lvT l k).map (·.s)).Nodup := by
  unfold lvT
  rw [List.map_map]
  have h2 : ((l.filter fun n => (k : Int) < n.top).map (·.s)).Nodup := H.nd.sublist (List.filter_sublist.map _)
  exact h2
theorem lay_all (H : SortT h l) (h0 : ∀ n ∈ l, n.marks = 0) : ∀ j, (1 ≤ j → getL (layH l j) (1, 0, 0) = 5) ∧ ∀ k, k < j → ChL (getL (layH l j)) k (4, 0, k) (lvT l k)
  | 0 => ⟨fun h => absurd h (by omega), fun k hk => absurd hk (by omega)⟩
  | j + 1 => by
    obtain ⟨ih1, ih2⟩ := lay_all H h0 j
    have hr : ∀ n ∈ lvT l j, (1 ≤ n.s ∧ n.s ≤ 1000) ∧ n.mb = false := fun n hn => by
      obtain ⟨m, hm, -, rfl⟩ := lvT_mem hn
      exact ⟨(H.ok m hm).1, by show bitT m.marks j = false; rw [h0 m hm, bitT_zero]⟩
    obtain ⟨i1, i2⟩ := lay_chL (j : Int) (by omega) (lvT l j) (4, 0, j) (setL (layH l j) (1, 0, 0) 5) (lvT_nd H j) hr (fun s => ⟨by simp, by simp⟩) (fun n _ => by simp)
    refine ⟨fun _ => ?_, fun k hk => ?_⟩
    · show getL (layL _ _ _ _ _ _) _ = 5
      rw [i1 _ (by simp) fun n _ => ⟨by simp, by simp, by simp⟩, setL_at', if_pos rfl]
    · by_cases hkj : k = j
      · subst hkj
        exact i2
      · have hc := ih2 k (by omega)
        refine hc.other ?_ fun n hn => ⟨?_, ?_⟩
        · show getL (layL _ _ _ _ _ _) _ = _
          rw [i1 _ (by simp; omega) fun n _ => ⟨by simp, by simp, by simp⟩, setL_at', if_neg (by simp)]
        · show getL (layL _ _ _ _ _ _) _ = _
          by_cases hm : ∃ m ∈ lvT l j, m.s = n.s
          · obtain ⟨m, hm, e⟩ := hm
            have h1 := i2.key m hm
            rw [e] at h1
            rw [h1]
            obtain ⟨m', hm', -, rfl⟩ := lvT_mem hm
            obtain ⟨n', hn', -, rfl⟩ := lvT_mem hn
            have : m' = n' := nodup_inj H.nd hm' hn' e
            rw [this]
            rfl
          · rw [i1 _ (by simp) fun m hm' => ⟨fun e => hm ⟨m, hm', by simpa using e.symm⟩, by simp, by simp; omega⟩, setL_at', if_neg (by simp)]
            exact hc.key n hn
        · show getL (layL _ _ _ _ _ _) _ = _
          rw [i1 _ (by simp) fun m _ => ⟨by simp; omega, by simp; omega, by simp; omega⟩, setL_at', if_neg (by simp)]
/-- So a skip list without marks lies. -/
theorem lay_sk (H : SortT h l) (h0 : ∀ n ∈ l, n.marks = 0) (hh : 1 ≤ h) : SkT (lvT l) h (getL (layH l h)) := by
  obtain ⟨h1, h2⟩ := lay_all H h0 h
  refine ⟨h1 hh, h2, fun k hk => ?_, fun k hk n hn => ?_, fun k hk n hn => ?_⟩
  · unfold lvT
    rw [List.pairwise_map]
    exact (H.up.sublist List.filter_sublist)
  · obtain ⟨m, hm, ht, rfl⟩ := lvT_mem hn
    refine List.mem_map.2 ⟨m, List.mem_filter.2 ⟨hm, by simp; omega⟩, ?_⟩
    unfold ndT
    rw [h0 m hm, bitT_zero, bitT_zero]
  · obtain ⟨m, hm, ht, rfl⟩ := lvT_mem hn
    exact (H.ok m hm).1.1
end
end Go.Proofs.YtnnjanaclgjneaaGreatDoor

/- Rows of the call's own, of structs of k cells each: appended to, read. General. -/
namespace Go.Proofs.YtnnjanaclgjneaaGreatDoor
open Go.RowKit Go.Maps
set_option maxRecDepth 100000

section
variable {α : Type} {enc : α → List Value} {k : Nat}
def flatK (enc : α → List Value) (l : List α) : List Value := l.flatMap enc
theorem flatK_length (hk : ∀ x, (enc x).length = k) (l : List α) : (flatK enc l).length = l.length * k := by
  induction l with
  | nil => simp [flatK]
  | cons x l ih =>
    have e : flatK enc (x :: l) = enc x ++ flatK enc l := by simp [flatK]
    rw [e, List.length_append, ih, hk, List.length_cons, Nat.add_mul]
    omega
theorem flatK_append (a b : List α) : flatK enc (a ++ b) = flatK enc a ++ flatK enc b := by simp [flatK]
theorem flatK_get [Inhabited α] (hk : ∀ x, (enc x).length = k) : ∀ (l : List α) (j c : Nat), j < l.length → c < k → (flatK enc l)[j * k + c]? = (enc (l.getD j default))[c]? := by
  intro l
  induction l with
  | nil => intro j c h; simp at h
  | cons x l ih =>
    intro j c hj hc
    have e : flatK enc (x :: l) = enc x ++ flatK enc l := by simp [flatK]
    cases j with
    | zero => rw [e, List.getElem?_append_left (by rw [hk]; omega)]; simp
    | succ j =>
      have e3 : (j + 1) * k = j * k + k := by rw [Nat.add_mul, Nat.one_mul]
      rw [e, List.getElem?_append_right (by rw [hk]; omega)]
      have := ih j c (by simpa using hj) hc
      have e2 : (j + 1) * k + c - (enc x).length = j * k + c := by rw [hk]; omega
      rw [e2, this]
      simp
theorem RowX.news [Inhabited α] (hk : ∀ x, (enc x).length = k) (hk0 : 0 < k) {w : World} {ad : Addr} {xs : List α} (h : RowX enc k w (some ad) xs) : ∀ j u, (flatK enc xs)[j]? = some u → w.cell? (ad.add j) = some u := by
  intro j u hu
  rcases h with rfl | ⟨b, off, he, hl, hc⟩
  · simp [flatK] at hu
  · cases he
    have hj : j < xs.length * k := by rw [← flatK_length hk]; exact (List.getElem?_eq_some_iff.1 hu).1
    have e : (⟨b, off, none⟩ : Addr).add j = ⟨b, off + j, none⟩ := by unfold Addr.add; split <;> simp_all
    have e2 : j / k * k + j % k = j := by rw [Nat.mul_comm]; exact Nat.div_add_mod j k
    have hlt : j / k < xs.length := (Nat.div_lt_iff_lt_mul hk0).2 hj
    have h1 := hc (j / k) hlt (j % k) u (by rw [← flatK_get hk xs (j / k) (j % k) hlt (Nat.mod_lt _ hk0), e2, hu])
    rw [e]
    rwa [Nat.add_assoc, e2] at h1
theorem Blk.rowK [Inhabited α] (hk : ∀ x, (enc x).length = k) {w : World} {g : Nat} {l : List α} (h : Blk 0 w g (flatK enc l)) : RowX enc k w (some ⟨g, 0, none⟩) l := by
  refine .inr ⟨g, 0, rfl, h.1, fun i hi j v e => ?_⟩
  have hj : j < k := by have := (List.getElem?_eq_some_iff.1 e).1; rw [hk] at this; exact this
  rw [Nat.zero_add, h.rule, flatK_get hk l i j hi hj]
  exact e
theorem owns_rowK [Inhabited α] (hk : ∀ x, (enc x).length = k) {w : World} {b : Nat} {e : TypeId} {A : Option Addr} {cap : Nat} {l : List α} (h : w.ownsRow b e k (.slice A l.length cap) l.length (flatK enc l)) : RowX enc k w A l := by
  rcases h.2 with ⟨_, h0⟩ | ⟨g, cap', cur, hv, _, hg, hn, hc, hcs, htk⟩
  · exact .inl (List.eq_nil_of_length_eq_zero h0)
  · simp only [Value.slice.injEq] at hv
    obtain ⟨rfl, -, rfl⟩ := hv
    refine .inr ⟨g, 0, rfl, (Array.getElem?_eq_some_iff.1 hg).1, fun i hi j v e => ?_⟩
    have hj : j < k := by have := (List.getElem?_eq_some_iff.1 e).1; rw [hk] at this; exact this
    have h1 := flatK_get hk l i j hi hj
    have hlt : i * k + j < l.length * k := by
      have : (i + 1) * k ≤ l.length * k := Nat.mul_le_mul_right k hi
      rw [Nat.add_mul] at this
      omega
    rw [e, ← htk, List.getElem?_take_of_lt hlt] at h1
    rw [Nat.zero_add]
    simp only [World.cell?, hg]
    simpa using h1
/-- A row of its own, appended to. -/
def rowKI (enc : α → List Value) (k : Nat) (v : Value) (e : TypeId) (l : List α) : Item := rowI v e k l.length (flatK enc l)
variable {w0 w w' : World} {L : List Item}
theorem Env.rowK (h : Env w0 L w) (i : Nat) {v : Value} {e : TypeId} {l : List α} (hi : L[i]? = some (rowKI enc k v e l)) : w.ownsRow 0 e k v l.length (flatK enc l) := h.get i hi
theorem Env.cellsK [Inhabited α] (hk : ∀ x, (enc x).length = k) (h : Env w0 L w) (i : Nat) {A : Option Addr} {n cap : Nat} {e : TypeId} {l : List α} (hn : n = l.length) (hi : L[i]? = some (rowKI enc k (.slice A n cap) e l)) : RowX enc k w A l := by subst hn; exact owns_rowK hk (h.rowK i hi)
theorem Env.addEmptyK (h : Env w0 L w) (n : Nat) (hn : w.heap.size = n) (e : TypeId) : Env w0 (rowKI enc k (.slice (some ⟨n, 0, none⟩) 0 0) e [] :: L) (w.alloc (.cells #[] e)) := by
  subst hn
  have ho : (w.alloc (.cells #[] e)).ownsRow w.heap.size e k (.slice (some ⟨w.heap.size, 0, none⟩) 0 0) 0 (flatK enc []) := ⟨by simp [flatK], .inr ⟨w.heap.size, 0, #[], rfl, Nat.le_refl _, heap_alloc_new w _, Nat.le_refl _, by simp, by simp, by simp [flatK]⟩⟩
  exact h.add (rowKI enc k (.slice (some ⟨w.heap.size, 0, none⟩) 0 0) e []) ((Below.refl _ _).alloc (Nat.le_refl _) _) (ownsRow_base ho (Nat.zero_le _)) fun k hk => ho.lt k hk
/-- A row appended to a row of its own. -/
theorem Env.appendK [Inhabited α] (hk : ∀ x, (enc x).length = k) (hk0 : 0 < k) (hone : ∀ x, ∀ u ∈ enc x, u.oneCell' = true) {P : Program} (h : Env w0 L w) (i : Nat) {v : Value} {e : TypeId} {l xs : List α} (hi : L[i]? = some (rowKI enc k v e l)) (t ty : TypeId) (ht : P.underlying t = some (.slice e))
    {zz : Value} {bytes : Nat} (hzz0 : zz.cells.size = k) (hinfo : (P.info? e).map (fun i => (i.zero, i.size, i.bytes)) = some (some zz, k, bytes))
    {A : Option Addr} (c : Nat) (hx : RowX enc k w A xs) (hA : A = none → xs = []) (hz : l.length + xs.length ≤ maxLen) (hby : (l.length + xs.length) * bytes ≤ 140737488355328) :
    ∃ A' c' w', (Builtin.append_ #[t, t] ty #[v, .slice A xs.length c]).run P w = .ok (.slice A' (l.length + xs.length) c') w' ∧ Env w0 (L.set i (rowKI enc k (.slice A' (l.length + xs.length) c') e (l ++ xs))) w' := by
  obtain ⟨i0, hi0, hzz⟩ := Option.map_eq_some_iff.1 hinfo
  simp only [Prod.mk.injEq] at hzz
  obtain ⟨hz0, hs, hb⟩ := hzz
  have hown := h.rowK i hi
  obtain ⟨v', w', hrun, ho, hg, hv⟩ := run_append_rows (P := P) t ty 0 e i0 zz k bytes ht hi0 hz0 hs hb hzz0 hk0 w v l.length (flatK enc l) hown A xs.length c (flatK enc xs) (flatK_length hk xs)
    (by
      cases A with
      | none =>
        left
        have := hA rfl
        subst this
        exact ⟨rfl, rfl⟩
      | some ad => exact .inr ⟨ad, rfl, RowX.news hk hk0 hx⟩) (fun u hu => by
        obtain ⟨x, _, hx2⟩ := List.mem_flatMap.1 hu
        exact hone x u hx2) hz hby (Nat.zero_le _)
  obtain ⟨A', c', rfl⟩ := ownsRow_slice ho
  have hst : Step (fun k => v.ownBlock = some k) (fun k => (Value.slice A' (l.length + xs.length) c').ownBlock = some k) w w' := ⟨(Turn.refl _ w).grown hg fun k _ e => e, fun k hk => by
    rcases hv with e | e
    · exact .inl (by rw [← e]; exact hk)
    · right
      rw [e] at hk
      cases hk
      exact Nat.le_refl _⟩
  refine ⟨A', c', w', hrun, h.step i (rowKI enc k _ e (l ++ xs)) hi hst ?_ ?_⟩
  · show w'.ownsRow 0 e k _ (l ++ xs).length (flatK enc (l ++ xs))
    rw [List.length_append, flatK_append]
    exact ho
  · exact ownsRow_lt ho
end
end Go.Proofs.YtnnjanaclgjneaaGreatDoor

/- A skip list's row of slots: one more, at its place by its key; one of a row written, read. -/
namespace Go.Proofs.YtnnjanaclgjneaaGreatDoor
open Go.RowKit Go.Maps
set_option maxRecDepth 100000

theorem encT_len (x : Nt) : (encT x).length = 4 := rfl
theorem encT_one (x : Nt) : ∀ u ∈ encT x, u.oneCell' = true := by intro u hu; simp [encT] at hu; rcases hu with rfl | rfl | rfl | rfl <;> rfl
theorem at4T {w : World} {b o : Nat} {n : Nt} (h : CellsAt w b o (encT n)) : w.cell? ⟨b, o, none⟩ = some (.int .i64 n.s) ∧ w.cell? ⟨b, o + 1, none⟩ = some (.int .u64 n.key) ∧ w.cell? ⟨b, o + 2, none⟩ = some (.int .i64 n.top) ∧ w.cell? ⟨b, o + 3, none⟩ = some (.int .i64 n.marks) :=
  ⟨h 0 _ rfl, h 1 _ rfl, h 2 _ rfl, h 3 _ rfl⟩
theorem flatT_set : ∀ (l : List Nt) (j : Nat) (a : Nt), j < l.length → flatK encT (l.set j a) = ((((flatK encT l).set (j * 4) (.int .i64 a.s)).set (j * 4 + 1) (.int .u64 a.key)).set (j * 4 + 2) (.int .i64 a.top)).set (j * 4 + 3) (.int .i64 a.marks)
  | [], j, a, h => absurd h (by simp)
  | n :: r, 0, a, _ => by simp [flatK, encT]
  | n :: r, j + 1, a, h => by
    have ih := flatT_set r j a (by simpa using h)
    have e : ∀ l, flatK encT (n :: l) = .int .i64 n.s :: .int .u64 n.key :: .int .i64 n.top :: .int .i64 n.marks :: flatK encT l := fun l => by simp [flatK, encT]
    rw [List.set_cons_succ, e, e, ih]
    simp only [show (j + 1) * 4 = j * 4 + 4 by omega, show j * 4 + 4 + 1 = j * 4 + 1 + 4 by omega, show j * 4 + 4 + 2 = j * 4 + 2 + 4 by omega, show j * 4 + 4 + 3 = j * 4 + 3 + 4 by omega]
    rfl
theorem flatT_marks : ∀ (l : List Nt) (j : Nat) (v : Int), j < l.length → flatK encT (l.set j { l.getD j default with marks := v }) = (flatK encT l).set (j * 4 + 3) (.int .i64 v)
  | [], j, v, h => absurd h (by simp)
  | n :: r, 0, v, _ => by simp [flatK, encT]
  | n :: r, j + 1, v, h => by
    have ih := flatT_marks r j v (by simpa using h)
    have e : ∀ l, flatK encT (n :: l) = .int .i64 n.s :: .int .u64 n.key :: .int .i64 n.top :: .int .i64 n.marks :: flatK encT l := fun l => by simp [flatK, encT]
    rw [List.set_cons_succ, e, e, List.getD_cons_succ, ih]
    simp only [show (j + 1) * 4 + 3 = j * 4 + 3 + 4 by omega]
    rfl
/-- Two that stand side by side change places. -/
def swpT (l : List Nt) (t : Nat) : List Nt := (l.set (t + 1) (l.getD t default)).set t (l.getD (t + 1) default)
theorem swpT_length (l : List Nt) (t : Nat) : (swpT l t).length = l.length := by simp [swpT]
theorem swpT_app (x y : Nt) (B : List Nt) : ∀ A : List Nt, swpT (A ++ y :: x :: B) A.length = A ++ x :: y :: B
  | [] => by simp [swpT]
  | a :: A => by
    unfold swpT
    simp
/-- A row by rising keys in which one is on its way to its place. -/
def InsT (x : Nt) (t : Nat) (l : List Nt) : Prop := ∃ A B, l = A ++ x :: B ∧ A.length = t ∧ (A ++ B).Pairwise (fun a b => a.key < b.key) ∧ (∀ b ∈ B, x.key < b.key) ∧ (∀ a ∈ A ++ B, a.key ≠ x.key)
theorem InsT.at {x : Nt} {t : Nat} {l : List Nt} (h : InsT x t l) : l.getD t default = x := by
  obtain ⟨A, B, rfl, rfl, -, -, -⟩ := h
  simp
theorem InsT.start {x : Nt} {l : List Nt} (h : l.Pairwise (fun a b => a.key < b.key)) (hn : ∀ a ∈ l, a.key ≠ x.key) : InsT x l.length (l ++ [x]) := ⟨l, [], rfl, rfl, by simpa using h, by simp, by simpa using hn⟩
theorem InsT.cut {x : Nt} {t : Nat} {l : List Nt} (h : InsT x (t + 1) l) : ∃ A y B, l = A ++ y :: x :: B ∧ A.length = t ∧ l.getD t default = y ∧ (A ++ y :: B).Pairwise (fun a b => a.key < b.key) ∧ (∀ b ∈ B, x.key < b.key) ∧ (∀ a ∈ A ++ y :: B, a.key ≠ x.key) := by
  obtain ⟨A, B, rfl, hA, hp, hB, hn⟩ := h
  obtain ⟨A', y, rfl⟩ : ∃ A' y, A = A' ++ [y] := by
    rcases List.eq_nil_or_concat A with e | ⟨A', y, e⟩
    · rw [e] at hA; simp at hA
    · exact ⟨A', y, by rw [e, List.concat_eq_append]⟩
  have hA' : A'.length = t := by simpa using hA
  refine ⟨A', y, B, by simp, hA', ?_, by simpa using hp, hB, by simpa using hn⟩
  rw [← hA']
  simp
theorem InsT.swap {x : Nt} {t : Nat} {l : List Nt} (h : InsT x (t + 1) l) (hk : x.key < (l.getD t default).key) : InsT x t (swpT l t) := by
  obtain ⟨A, y, B, rfl, rfl, hy, hp, hB, hn⟩ := h.cut
  rw [hy] at hk
  rw [swpT_app]
  refine ⟨A, y :: B, rfl, rfl, hp, fun b hb => ?_, hn⟩
  rcases List.mem_cons.1 hb with rfl | hb
  · exact hk
  · exact hB b hb
theorem InsT.done {x : Nt} {t : Nat} {l : List Nt} (h : InsT x (t + 1) l) (hk : ¬ x.key < (l.getD t default).key) : l.Pairwise (fun a b => a.key < b.key) := by
  obtain ⟨A, y, B, rfl, rfl, hy, hp, hB, hn⟩ := h.cut
  rw [hy] at hk
  have hny := hn y (by simp)
  have hyx : y.key < x.key := by omega
  rw [List.pairwise_append] at hp ⊢
  obtain ⟨p1, p2, p3⟩ := hp
  obtain ⟨p4, p5⟩ := List.pairwise_cons.1 p2
  refine ⟨p1, List.pairwise_cons.2 ⟨fun b hb => ?_, List.pairwise_cons.2 ⟨hB, p5⟩⟩, fun a ha b hb => ?_⟩
  · rcases List.mem_cons.1 hb with rfl | hb
    · exact hyx
    · exact p4 b hb
  · rcases List.mem_cons.1 hb with rfl | hb
    · exact p3 a ha b (List.mem_cons_self ..)
    · rcases List.mem_cons.1 hb with rfl | hb
      · exact Int.lt_trans (p3 a ha y (List.mem_cons_self ..)) hyx
      · exact p3 a ha b (List.mem_cons_of_mem _ hb)
theorem InsT.done0 {x : Nt} {l : List Nt} (h : InsT x 0 l) : l.Pairwise (fun a b => a.key < b.key) := by
  obtain ⟨A, B, rfl, hA, hp, hB, -⟩ := h
  have : A = [] := List.length_eq_zero_iff.1 hA
  subst this
  exact List.pairwise_cons.2 ⟨hB, by simpa using hp⟩
theorem swpT_perm : ∀ (l : List Nt) (t : Nat), t + 1 < l.length → (swpT l t).Perm l
  | [], _, h => absurd h (by simp)
  | [_], _, h => absurd h (by simp)
  | a :: b :: r, 0, _ => by simpa [swpT] using List.Perm.swap a b r
  | a :: b :: r, t + 1, h => by
    have := swpT_perm (b :: r) t (by simpa using h)
    exact this.cons a
section
variable {w0 w : World} {L : List Item}
/-- One of a row is written. -/
theorem Env.setT (h : Env w0 L w) (i : Nat) {g cap n : Nat} {e : TypeId} {l : List Nt} (hn : n = l.length) (hi : L[i]? = some (rowKI encT 4 (.slice (some ⟨g, 0, none⟩) n cap) e l)) {j : Nat} (hj : j < l.length) (a : Nt) :
    Env w0 (L.set i (rowKI encT 4 (.slice (some ⟨g, 0, none⟩) n cap) e (l.set j a))) ((((w.setCell ⟨g, j * 4, none⟩ (.int .i64 a.s)).setCell ⟨g, j * 4 + 1, none⟩ (.int .u64 a.key)).setCell ⟨g, j * 4 + 2, none⟩ (.int .i64 a.top)).setCell ⟨g, j * 4 + 3, none⟩ (.int .i64 a.marks)) := by
  subst hn
  have ho := h.rowK i hi
  refine h.step i (rowKI encT 4 (.slice (some ⟨g, 0, none⟩) l.length cap) e (l.set j a)) hi ⟨((((Turn.refl (fun k => (Value.slice (some ⟨g, 0, none⟩) l.length cap).ownBlock = some k) w).setCell (p := ⟨g, j * 4, none⟩) (fun _ => rfl) _).setCell (p := ⟨g, j * 4 + 1, none⟩) (fun _ => rfl) _).setCell (p := ⟨g, j * 4 + 2, none⟩) (fun _ => rfl) _).setCell (p := ⟨g, j * 4 + 3, none⟩) (fun _ => rfl) _, fun k hk => .inl hk⟩ ?_ fun k hk => by
    have := h.lt i hi k hk
    simpa using this
  show World.ownsRow _ 0 e 4 _ (l.set j a).length (flatK encT (l.set j a))
  rw [flatT_set l j a hj, List.length_set]
  exact ((((ho.stored _ _).1.stored _ _).1.stored _ _).1.stored _ _).1
theorem Env.marksT (h : Env w0 L w) (i : Nat) {g cap n : Nat} {e : TypeId} {l : List Nt} (hn : n = l.length) (hi : L[i]? = some (rowKI encT 4 (.slice (some ⟨g, 0, none⟩) n cap) e l)) {j : Nat} (hj : j < l.length) (v : Int) :
    Env w0 (L.set i (rowKI encT 4 (.slice (some ⟨g, 0, none⟩) n cap) e (l.set j { l.getD j default with marks := v }))) (w.setCell ⟨g, j * 4 + 3, none⟩ (.int .i64 v)) := by
  subst hn
  have ho := h.rowK i hi
  refine h.step i (rowKI encT 4 (.slice (some ⟨g, 0, none⟩) l.length cap) e (l.set j { l.getD j default with marks := v })) hi ⟨(Turn.refl (fun k => (Value.slice (some ⟨g, 0, none⟩) l.length cap).ownBlock = some k) w).setCell (p := ⟨g, j * 4 + 3, none⟩) (fun _ => rfl) _, fun k hk => .inl hk⟩ ?_ fun k hk => by
    have := h.lt i hi k hk
    simpa using this
  show World.ownsRow _ 0 e 4 _ (l.set j { l.getD j default with marks := v }).length (flatK encT (l.set j { l.getD j default with marks := v }))
  rw [flatT_marks l j v hj, List.length_set]
  exact (ho.stored _ _).1
/-- Where a row lies that holds something. -/
theorem Env.atT (h : Env w0 L w) (i : Nat) {A : Option Addr} {n cap : Nat} {e : TypeId} {l : List Nt} (hn : n = l.length) (hi : L[i]? = some (rowKI encT 4 (.slice A n cap) e l)) (h0 : 0 < n) : ∃ g, A = some ⟨g, 0, none⟩ := by
  subst hn
  rcases (h.rowK i hi).2 with ⟨-, h9⟩ | ⟨g, _, _, hv, _⟩
  · omega
  · simp only [Value.slice.injEq] at hv
    exact ⟨g, hv.1⟩
theorem Env.cellT (h : Env w0 L w) (i : Nat) {g n cap : Nat} {e : TypeId} {l : List Nt} (hn : n = l.length) (hi : L[i]? = some (rowKI encT 4 (.slice (some ⟨g, 0, none⟩) n cap) e l)) {j : Nat} (hj : j < l.length) {x : Nt} (hx : l.getD j default = x) :
    w.cell? ⟨g, j * 4, none⟩ = some (.int .i64 x.s) ∧ w.cell? ⟨g, j * 4 + 1, none⟩ = some (.int .u64 x.key) ∧ w.cell? ⟨g, j * 4 + 2, none⟩ = some (.int .i64 x.top) ∧ w.cell? ⟨g, j * 4 + 3, none⟩ = some (.int .i64 x.marks) := by
  rcases h.cellsK encT_len i hn hi with h0 | ⟨g', off', h9, -, hc⟩
  · rw [h0] at hj; exact absurd hj (by simp)
  · cases h9
    have := at4T (hc j hj)
    rw [hx, Nat.zero_add] at this
    exact this
end
end Go.Proofs.YtnnjanaclgjneaaGreatDoor

/- A skip list's nodes and deeds that came in: rows of structs. -/
namespace Go.Proofs.YtnnjanaclgjneaaGreatDoor
open Go.RowKit Go.Maps
set_option maxRecDepth 100000

structure NtI where
  s : Int
  key : Int
  top : Int
  marks : Int
instance : Inhabited NtI := ⟨⟨0, 0, 0, 0⟩⟩
def encNtI (r : NtI) : List Value := [.int .i64 r.s, .int .u64 r.key, .int .i64 r.top, .int .i64 r.marks]
def OkNtI (r : NtI) : Prop := In64 r.s ∧ InU r.key ∧ In64 r.top ∧ In64 r.marks
theorem flatNtI : flatT Tryz.prog 6 128 = some [.num .i64, .num .u64, .num .i64, .num .i64] := by kernel_rfl
theorem cellsNtI : Tryz.prog.cellsOf 128 = 4 := by kernel_rfl
theorem open_NtI {H : Type} {en : TypeId × Value → H} {W : World} {A : Option Addr} {len cap : Nat} {d : DataW H} {p : List MemPlace}
    (h : DataW.Trod en Tryz.prog W 0 (fun _ => true) true 88 (.slice A len cap) d p) (hlt : ∀ x ∈ p, x.block < W.heap.size) :
    ∃ xs : List NtI, xs.length = len ∧ len ≤ maxLen ∧ (∀ r ∈ xs, OkNtI r) ∧ RowX encNtI 4 W A xs := by
  refine open_rowX Tryz.underlying88 flatNtI cellsNtI (by simp) (fun w b o hall => ?_) h hlt
  obtain ⟨_, c0, x0, rfl, w0⟩ := hall 0 _ rfl
  obtain ⟨_, c1, x1, rfl, w1⟩ := hall 1 _ rfl
  obtain ⟨_, c2, x2, rfl, w2⟩ := hall 2 _ rfl
  obtain ⟨_, c3, x3, rfl, w3⟩ := hall 3 _ rfl
  refine ⟨⟨x0, x1, x2, x3⟩, fun j v e => ?_, wf_i.1 w0, wf_u.1 w1, wf_i.1 w2, wf_i.1 w3⟩
  match j with
  | 0 => simp [encNtI] at e; subst e; exact c0
  | 1 => simp [encNtI] at e; subst e; exact c1
  | 2 => simp [encNtI] at e; subst e; exact c2
  | 3 => simp [encNtI] at e; subst e; exact c3
  | j + 4 => simp [encNtI] at e
theorem at_NtI {w : World} {b o : Nat} {s key top marks : Int} (h : CellsAt w b o (encNtI ⟨s, key, top, marks⟩)) :
    w.cell? ⟨b, o, none⟩ = some (.int .i64 s) ∧ w.cell? ⟨b, o + 1, none⟩ = some (.int .u64 key) ∧ w.cell? ⟨b, o + 2, none⟩ = some (.int .i64 top) ∧ w.cell? ⟨b, o + 3, none⟩ = some (.int .i64 marks) :=
  ⟨h 0 _ rfl, h 1 _ rfl, h 2 _ rfl, h 3 _ rfl⟩
end Go.Proofs.YtnnjanaclgjneaaGreatDoor

/- An array of 1001 marks in a block of the call's own. -/
namespace Go.Proofs.YtnnjanaclgjneaaGreatDoor
open Go.RowKit
set_option maxRecDepth 100000

/-- 1001 marks, none set. -/
def zero1001 : Array Value := Array.replicate 1001 (.bool false)
theorem build1001 (w : World) : (Instr.build 198 #[]).run Tryz.prog w = .ok (.agg zero1001) w := by kernel_rfl
theorem one1001 : zero1001.all (·.oneCell') = true := Array.all_eq_true_iff_forall_mem.2 fun v hv => by
  have h := Array.eq_of_mem_replicate (show v ∈ Array.replicate 1001 (Value.bool false) from hv)
  rw [h]
  rfl
theorem size1001 : (Tryz.prog.info? 198).map (·.size) = some zero1001.size := by kernel_rfl

/-- The marks of a block, as a function. -/
def UsedM (h : Nat) (w wr : World) (T : Nat → Bool) : Prop := (∀ i, i < 1001 → wr.cell? ⟨h, i, none⟩ = some (.bool (T i)) ∧ wr.frozen? ⟨h, i, none⟩ = false) ∧ Below h w wr ∧ h < wr.heap.size
theorem UsedM.below {h : Nat} {w wr w1 : World} {T : Nat → Bool} (u : UsedM h w wr T) (hb : Below wr.heap.size wr w1) : UsedM h w w1 T := by
  obtain ⟨u1, u2, u3⟩ := u
  refine ⟨fun i hi => ?_, u2.trans (hb.mono (by omega)), by have := hb.size; omega⟩
  rw [hb.cell (p := ⟨h, i, none⟩) u3, hb.frozen (p := ⟨h, i, none⟩) u3]
  exact u1 i hi
theorem UsedM.store {h : Nat} {w wr : World} {T : Nat → Bool} (u : UsedM h w wr T) {j : Nat} (hj : j < 1001) : UsedM h w (wr.setCell ⟨h, j, none⟩ (.bool true)) (fun i => T i || decide (i = j)) := by
  obtain ⟨u1, u2, u3⟩ := u
  refine ⟨fun i hi => ?_, u2.setCell (Nat.le_refl _) _, by simpa using u3⟩
  rw [World.frozen?_setCell]
  refine ⟨?_, (u1 i hi).2⟩
  by_cases hij : i = j
  · subst hij
    rw [World.cell?_setCell_same _ _ _ (u1 i hi).1]
    simp
  · rw [World.cell?_setCell_other _ _ _ _ (by first | (simp; done) | (simp; omega)), (u1 i hi).1]
    simp [hij]
theorem below_setCellsM {B : Nat} {a : World} {b : Nat} (hb : B ≤ b) : ∀ (vs : List Value) (o : Nat) (w : World), Below B a w → Below B a (w.setCells b o vs)
  | [], _, _, h => h
  | _ :: r, o, _, h => below_setCellsM hb r (o + 1) _ (h.setCell hb _)
theorem size_setCellsM (b : Nat) : ∀ (vs : List Value) (o : Nat) (w : World), (w.setCells b o vs).heap.size = w.heap.size
  | [], _, _ => rfl
  | _ :: r, o, w => by rw [World.setCells, size_setCellsM b r]; simp
theorem usedM_new (w : World) : UsedM w.heap.size w ((w.alloc (.cells zero1001 198)).setCells w.heap.size 0 zero1001.toList) (fun _ => false) := by
  have hg : (w.alloc (.cells zero1001 198)).heap[w.heap.size]? = some (.cells zero1001 198 (0, 0)) := heap_alloc_new w _
  have ht : (w.alloc (.cells zero1001 198)).there w.heap.size 0 zero1001.toList.length := fun j hj => by
    rw [Nat.zero_add]
    refine ⟨?_, frozen_of_row _ _ _ _ _ hg⟩
    rw [cell_of_row _ _ _ _ _ _ hg]
    have : j < zero1001.size := by simpa using hj
    simp [this]
  refine ⟨fun i hi => ?_, below_setCellsM (Nat.le_refl _) _ _ _ ((Below.refl _ _).alloc (Nat.le_refl _) _), by rw [size_setCellsM]; simp⟩
  have h1 := World.rangeAt_setCells_same (w.alloc (.cells zero1001 198)) w.heap.size 0 zero1001.toList ht i (.bool false) (by unfold zero1001; rw [Array.toList_replicate, List.getElem?_replicate]; simp only [hi, if_true])
  rw [Nat.zero_add] at h1
  refine ⟨h1, ?_⟩
  rw [World.frozen?_setCells]
  exact frozen_of_row _ _ _ _ _ hg

set_option maxHeartbeats 3200000 in
/-- 'used := [1001]bool{}': one step of the walk. -/
theorem list_usedM {ops : Array Oper} {rest : List Oper} {o1 o2 o3 : Oper} {a : Act} {w : World} {Q : Exit → Act → World → Prop} (g1 : o1.guard = none) (g2 : o2.guard = none) (g3 : o3.guard = none)
    (h1 : o1.op = .build 198 #[]) (h2 : o2.op = .alloc 198) (x y : Operand) (h3 : o3.op = .store 198 x y)
    (hx : ((a.put o1.dst (.agg zero1001)).put o2.dst (.pointer (some ⟨w.heap.size, 0, none⟩))).eval x = .pointer (some ⟨w.heap.size, 0, none⟩)) (hy : ((a.put o1.dst (.agg zero1001)).put o2.dst (.pointer (some ⟨w.heap.size, 0, none⟩))).eval y = .agg zero1001)
    (h : ∀ w2, UsedM w.heap.size w w2 (fun _ => false) → wpList Tryz.prog ops Q rest (((a.put o1.dst (.agg zero1001)).put o2.dst (.pointer (some ⟨w.heap.size, 0, none⟩))).put o3.dst undef) w2) : wpList Tryz.prog ops Q (o1 :: o2 :: o3 :: rest) a w := by
  refine wpList_plain g1 fun K1 hK1 => ?_
  unfold Oper.wp
  have e1 : (execOp a.eval o1).run Tryz.prog w = .ok (.value (.agg zero1001)) w := by
    have hb := build1001 w
    unfold execOp
    simp only [h1]
    rw [Array.map_empty]
    simp [hb]
  rw [e1]
  refine hK1 _ _ ?_
  refine wpList_plain g2 fun K2 hK2 => ?_
  unfold Oper.wp
  have e2 : (execOp (a.put o1.dst (.agg zero1001)).eval o2).run Tryz.prog w = .ok (.value (.pointer (some ⟨w.heap.size, 0, none⟩))) (w.alloc (.cells zero1001 198)) := by
    unfold execOp
    simp only [h2]
    kernel_rfl
  rw [e2]
  refine hK2 _ _ ?_
  exact wpList_store_mid g3 198 x y h3 w.heap.size 0 zero1001 hx hy (fun j hj => by
    have hg : (w.alloc (.cells zero1001 198)).heap[w.heap.size]? = some (.cells zero1001 198 (0, 0)) := heap_alloc_new w _
    rw [Nat.zero_add]
    refine ⟨?_, frozen_of_row _ _ _ _ _ hg⟩
    rw [cell_of_row _ _ _ _ _ _ hg]
    simp [hj]) size1001 one1001 (h _ (usedM_new w))

/-- The marks as a thing. -/
def usedMI (B : Nat) (T : Nat → Bool) : Item where
  F := fun k => k = B
  says := fun w => B < w.heap.size ∧ ∀ i, i < 1001 → w.cell? ⟨B, i, none⟩ = some (.bool (T i)) ∧ w.frozen? ⟨B, i, none⟩ = false
  loc := fun w1 w2 h hk hs => ⟨Nat.lt_of_lt_of_le h.1 hs, fun i hi => by
    have hb := hk B rfl
    obtain ⟨h1, h2⟩ := h.2 i hi
    exact ⟨by rw [World.cell?_of_block (w := w1) hb]; exact h1, by rw [World.frozen?_of_block (w := w1) hb]; exact h2⟩⟩
theorem Env.usedM {w0 w w' : World} {L : List Item} {T : Nat → Bool} (h : Env w0 L w) {B : Nat} (hB : w.heap.size = B) (hu : UsedM B w w' T) : Env w0 (usedMI B T :: L) w' := by
  subst hB
  exact h.add (usedMI w.heap.size T) hu.2.1 ⟨hu.2.2, hu.1⟩ fun k hk => by cases hk; exact ⟨Nat.le_refl _, hu.2.2⟩
theorem Env.markM {w0 w : World} {L : List Item} {B : Nat} {T : Nat → Bool} (h : Env w0 L w) (i : Nat) (hi : L[i]? = some (usedMI B T)) {j : Nat} (hj : j < 1001) : Env w0 (L.set i (usedMI B (fun k => T k || decide (k = j)))) (w.setCell ⟨B, j, none⟩ (.bool true)) := by
  have hs : (usedMI B T).says w := h.get i hi
  refine h.step i (usedMI B (fun k => T k || decide (k = j))) hi ⟨(Turn.refl (fun k => k = B) w).setCell (p := ⟨B, j, none⟩) (fun _ => rfl) _, fun k hk => .inl hk⟩ ⟨by simpa using hs.1, fun k hk => ?_⟩ fun k hk => by
    have := h.lt i hi k hk
    simpa using this
  rw [World.frozen?_setCell]
  refine ⟨?_, (hs.2 k hk).2⟩
  by_cases hkj : k = j
  · subst hkj
    rw [World.cell?_setCell_same _ _ _ (hs.2 k hk).1]
    simp
  · rw [World.cell?_setCell_other _ _ _ _ (by first | (simp; done) | (simp; omega)), (hs.2 k hk).1]
    simp [hkj]
end Go.Proofs.YtnnjanaclgjneaaGreatDoor

/- The contract of law 18's nodes: slots that can be, each once, by rising keys. -/
namespace Go.Proofs.YtnnjanaclgjneaaGreatDoor
open Go.RowKit Go.Maps
set_option maxRecDepth 100000

theorem infoNt : (Tryz.prog.info? 128).map (fun i => (i.zero, i.size, i.bytes)) = some (some (.agg #[.int .i64 0, .int .u64 0, .int .i64 0, .int .i64 0]), 4, 32) := by kernel_rfl
/-- Whether a key is there, of so many. -/
def twT (key : Int) (ns : List Nt) (k : Nat) : Bool := (ns.take k).any fun n => n.key == key
theorem twT_step {key : Int} {ns : List Nt} {k : Nat} (hk : k < ns.length) : twT key ns (k + 1) = (twT key ns k || (ns.getD k default).key == key) := by
  unfold twT
  rw [List.take_succ_eq_append_getElem hk, List.any_append]
  have : ns.getD k default = ns[k] := by simp [hk]
  rw [this]
  simp
theorem twT_no {key : Int} {ns : List Nt} (h : twT key ns ns.length = false) : ∀ n ∈ ns, n.key ≠ key := by
  intro n hn e
  unfold twT at h
  rw [List.take_length, List.any_eq_false] at h
  exact h n hn (by simpa using e)
theorem SortT.ins {H : Nat} {ns ms : List Nt} {x : Nt} (h : SortT H ns) (hx : NtOk H x) (hs : ∀ n ∈ ns, n.s ≠ x.s) (hp : ms.Perm (ns ++ [x])) (hu : ms.Pairwise fun a b => a.key < b.key) : SortT H ms := by
  refine ⟨fun n hn => ?_, ?_, hu⟩
  · rcases List.mem_append.1 (hp.mem_iff.1 hn) with h1 | h1
    · exact h.ok n h1
    · rw [List.mem_singleton.1 h1]; exact hx
  · rw [(hp.map (·.s)).nodup_iff, List.map_append, List.nodup_append]
    refine ⟨h.nd, by simp, ?_⟩
    intro a ha b hb hab
    simp only [List.map_cons, List.map_nil, List.mem_singleton] at hb
    subst hab hb
    obtain ⟨n, hn, he⟩ := List.mem_map.1 ha
    exact hs n hn he

section
variable {w0 w : World} {L : List Item}
set_option maxHeartbeats 12800000 in
theorem nodes18_t (A : Option Addr) (cap : Nat) (xs : List NtI) (hxl : xs.length ≤ 9223372036854775807) (H : Nat) (hH : 1 ≤ H ∧ H ≤ 16) (hok : ∀ r ∈ xs, OkNtI r) (hrow : RowX encNtI 4 w0 A xs) (hE : Env w0 L w) :
    Calls Tryz.prog 41 #[.slice A xs.length cap, .int .i64 (H : Int)] w fun o w' => ∃ (g : Option Addr) (c : Nat) (ns : List Nt), o = .returned (.slice g ns.length c) ∧ ns.length ≤ 30 ∧ SortT H ns ∧ Env w0 (rowKI encT 4 (.slice g ns.length c) 128 ns :: L) w' := by
  have hE1 := hE.addEmptyK (enc := encT) (k := 4) w.heap.size rfl 128
  have HROW := Lib.hid hrow
  have HOK := Lib.hid hok
  have hwu : IntKind.u64.wrap (H : Int) = (H : Int) := by rw [IntKind.wrap_u64]; omega
  have hh0 : ((H : Int) == 0) = false := by simp; omega
  have hh1 : ¬ (H : Int) = 0 := by omega
  clear hrow hok hE
  go_enter Tryz.func41, Tryz.ntmps41
  go_wp2_with (first | (refine list_usedM rfl rfl rfl rfl rfl _ _ rfl rfl rfl ?_; intro w2 hu))
  have hs1 : (w.alloc (.cells #[] 128)).heap.size = w.heap.size + 1 := by simp
  rw [hs1] at hu
  have hE := hE1.usedM hs1 hu
  clear hu hE1 hs1
  generalize w.heap.size = B0 at *
  go_loopw [5, 7] (fun ov iv wr => ∃ (j : Nat) (ns : List Nt) (g : Option Addr) (c : Nat) (T : Nat → Bool), ov = .slice g ns.length c ∧ iv = .int .i64 j ∧ j ≤ xs.length ∧ j ≤ 30 ∧ ns.length ≤ j ∧ Hid (SortT H ns ∧ ∀ n ∈ ns, T n.s.toNat = true) ∧ Env w0 (usedMI (B0 + 1) T :: rowKI encT 4 (.slice g ns.length c) 128 ns :: L) wr) (fun _ iv _ => 30 - (intOf iv).toNat)
  case atStart => exact ⟨0, [], _, 0, _, rfl, rfl, Nat.zero_le _, by omega, Nat.le_refl _, Lib.hid ⟨⟨by simp, by simp, List.Pairwise.nil⟩, by simp⟩, hE⟩
  case round =>
    clear hE
    obtain ⟨j, ns, g, c, T, rfl, rfl, hj, hj4, hnl, hinv, hE⟩ := hrel
    by_cases hlt : j < xs.length
    · by_cases hlt4 : j < 30
      · have hb1 : decide ((j : Int) < (xs.length : Int)) = true := by simp; omega
        have hb2 : decide ((j : Int) < 30) = true := by simp; omega
        have hlt1 : (j : Int) < (xs.length : Int) := by omega
        rcases HROW.out with h0 | ⟨g0, off, rfl, hgl, hc⟩
        · rw [h0] at hlt; simp at hlt
        obtain ⟨x, hx⟩ : ∃ x, xs.getD j default = x := ⟨_, rfl⟩
        have hxo : OkNtI x := HOK.out x (by rw [← hx, List.getD_eq_getElem?_getD, List.getElem?_eq_getElem hlt]; exact List.getElem_mem hlt)
        have hcj := (hc j hlt).below hE.below hgl
        rw [hx] at hcj
        obtain ⟨s, key, tp, mks⟩ := x
        obtain ⟨c0, c1, c2, c3⟩ := at_NtI hcj
        obtain ⟨r, hr, hr0, hr1⟩ := cut_u1 s 1000 (by decide) (by decide)
        obtain ⟨t, rfl⟩ : ∃ t : Nat, r = (t : Int) := ⟨r.toNat, by omega⟩
        obtain ⟨tq, htq, tq0, tq1⟩ := cut_u1 tp (H : Int) (by omega) (by omega)
        obtain ⟨mq, hmq, mq0, mq1⟩ := cut_u mks 65536 (by decide) (by decide)
        have htl : t < 1001 := by omega
        have ht2 : (t : Int) < 1001 := by omega
        have hk : InU key := by have := hxo; unfold OkNtI at this; exact this.2.1
        have HOKN : Hid (NtOk H ⟨(t : Int), key, tq, mq⟩) := Lib.hid ⟨⟨hr0, hr1⟩, hk, ⟨tq0, tq1⟩, mq0, by show mq ≤ 65535; omega⟩
        have hE6 := hE.box wr.heap.size rfl [.int .i64 t, .int .u64 key, .int .i64 tq, .int .i64 mq] 128
        clear hx hcj hc hk hr0 hr1 tq0 tq1 mq0 mq1 hxo
        go_upto_region 10 with fail
        generalize wr.alloc _ = w3 at *
        generalize wr.heap.size = X at *
        clear c0 c1 c2 c3 hE hr htq hmq
        have hE := hE6
        clear hE6
        go_wp2_with fail
        go_loopw [9, 10] (fun tv kv wq => ∃ k : Nat, k ≤ ns.length ∧ tv = .bool (twT key ns k) ∧ kv = .int .i64 k ∧ Env w0 (boxI X [.int .i64 t, .int .u64 key, .int .i64 tq, .int .i64 mq] :: usedMI (B0 + 1) T :: rowKI encT 4 (.slice g ns.length c) 128 ns :: L) wq) (fun _ kv _ => ns.length - (intOf kv).toNat)
        case atStart => exact ⟨0, Nat.zero_le _, rfl, rfl, hE⟩
        case round =>
          clear hE
          obtain ⟨k, hk, rfl, rfl, hE⟩ := hrel
          by_cases hkl : k < ns.length
          · have hb3 : decide ((k : Int) < (ns.length : Int)) = true := by simp; omega
            have hk3 : (k : Int) < (ns.length : Int) := by omega
            obtain ⟨b, rfl⟩ := hE.atT 2 rfl rfl (by omega)
            obtain ⟨y, hy⟩ : ∃ y, ns.getD k default = y := ⟨_, rfl⟩
            have HA : Hid (∀ v, Env w0 (boxI X [.int .i64 t, .int .u64 key, .int .i64 tq, .int .i64 mq] :: usedMI (B0 + 1) T :: rowKI encT 4 (.slice (some ⟨b, 0, none⟩) ns.length c) 128 ns :: L) v → v.cell? ⟨b, k * 4, none⟩ = some (.int .i64 y.s) ∧ v.cell? ⟨b, k * 4 + 1, none⟩ = some (.int .u64 y.key) ∧ v.cell? ⟨b, k * 4 + 2, none⟩ = some (.int .i64 y.top) ∧ v.cell? ⟨b, k * 4 + 3, none⟩ = some (.int .i64 y.marks)) := Lib.hid fun v hv => hv.cellT 2 rfl rfl hkl hy
            have hst := twT_step (key := key) hkl
            rw [hy] at hst
            have HST := Lib.hid hst
            clear hy hst
            obtain ⟨ys, yk, yt, ym⟩ := y
            dsimp only at HA HST
            generalize twT key ns k = tb at *
            cases tb
            · go_wp2_with fail
              refine wp_text (S := (Env w0 (boxI X [.int .i64 t, .int .u64 key, .int .i64 tq, .int .i64 mq] :: usedMI (B0 + 1) T :: rowKI encT 4 (.slice (some ⟨b, 0, none⟩) ns.length c) 128 ns :: L))) (by kernel_rfl) (by kernel_rfl) hE.drew (fun hT => ?_)
              have hT9 := Lib.hid hT
              clear hT
              repeat (first
                | (refine text_value (v := ?_) hT9.out (by rfl) ?_ ?_; rotate_left; (focus (intro w5 hS; obtain ⟨a0, a1, a2, a3⟩ := HA.out _ hS; have r0 := hS.rule 0 rfl; go_simp <;> with_reducible rfl)); (try simp only [Act.put, List.setIfInBounds_toArray, List.set_cons_zero, List.set_cons_succ]))
                | (refine text_off hT9.out (by rfl) ?_; (try simp only [Act.put, List.setIfInBounds_toArray, List.set_cons_zero, List.set_cons_succ]))
                | (refine text_call (v := ?_) (f := ?_) (args := ?_) hT9.out (by rfl) ?_ ?_ ?_; rotate_left 3; (focus (intro w5 hS; obtain ⟨a0, a1, a2, a3⟩ := HA.out _ hS; have r0 := hS.rule 0 rfl; go_simp; constructor <;> with_reducible rfl)); (focus (intro w5 hS; (first | fail))); (try simp only [Act.put, List.setIfInBounds_toArray, List.set_cons_zero, List.set_cons_succ])))
              refine InText.nil fun w5 hS5 => ?_
              clear hT9
              go_wp2_with fail
              exact ⟨⟨k + 1, by omega, by rw [HST.out]; simp, by simp, hS5⟩, by simp [intOf]; omega⟩
            · go_wp2_with fail
              refine wp_text (S := (Env w0 (boxI X [.int .i64 t, .int .u64 key, .int .i64 tq, .int .i64 mq] :: usedMI (B0 + 1) T :: rowKI encT 4 (.slice (some ⟨b, 0, none⟩) ns.length c) 128 ns :: L))) (by kernel_rfl) (by kernel_rfl) hE.drew (fun hT => ?_)
              have hT9 := Lib.hid hT
              clear hT
              repeat (first
                | (refine text_value (v := ?_) hT9.out (by rfl) ?_ ?_; rotate_left; (focus (intro w5 hS; skip; go_simp <;> with_reducible rfl)); (try simp only [Act.put, List.setIfInBounds_toArray, List.set_cons_zero, List.set_cons_succ]))
                | (refine text_off hT9.out (by rfl) ?_; (try simp only [Act.put, List.setIfInBounds_toArray, List.set_cons_zero, List.set_cons_succ]))
                | (refine text_call (v := ?_) (f := ?_) (args := ?_) hT9.out (by rfl) ?_ ?_ ?_; rotate_left 3; (focus (intro w5 hS; skip; go_simp; constructor <;> with_reducible rfl)); (focus (intro w5 hS; (first | fail))); (try simp only [Act.put, List.setIfInBounds_toArray, List.set_cons_zero, List.set_cons_succ])))
              refine InText.nil fun w5 hS5 => ?_
              clear hT9
              go_wp2_with fail
              exact ⟨⟨k + 1, by omega, by rw [HST.out]; simp, by simp, hS5⟩, by simp [intOf]; omega⟩
          · have hkn : k = ns.length := by omega
            subst hkn
            have hb3 : decide ((ns.length : Int) < (ns.length : Int)) = false := by simp
            obtain ⟨tb, htb⟩ : ∃ tb, twT key ns ns.length = tb := ⟨_, rfl⟩
            rw [htb]
            have HTB := Lib.hid htb
            clear htb hk hkl
            have hus := ((show (usedMI (B0 + 1) T).says _ from hE.get 1 rfl).2 t htl)
            obtain ⟨hus1, hus2⟩ := hus
            have r0 := hE.rule 0 rfl
            cases hT : T t
            · rw [hT] at hus1
              cases tb
              · have hE8 := hE.markM 1 rfl htl
                simp only [List.set_cons_succ, List.set_cons_zero] at hE8
                have r8 := hE8.rule 0 rfl
                have hE9 := hE8.box wr.heap.size (by simp) (encT ⟨(t : Int), key, tq, mq⟩) 128
                obtain ⟨A9, c9, w9, hrun, hE10⟩ := hE9.appendK (xs := [(⟨(t : Int), key, tq, mq⟩ : Nt)]) encT_len (by decide) encT_one 3 rfl 88 88 Tryz.underlying88 rfl infoNt 1 (Blk.rowK (enc := encT) (k := 4) encT_len (l := [(⟨(t : Int), key, tq, mq⟩ : Nt)]) (show Blk 0 _ _ (flatK encT [(⟨(t : Int), key, tq, mq⟩ : Nt)]) from hE9.get 0 rfl)) (fun h => by cases h) (by unfold maxLen; simp; omega) (by simp; omega)
                have HRUN := Lib.hid hrun
                have HSL : Hid (∀ n ∈ ns, n.s ≠ (t : Int)) := Lib.hid fun n hn e => by
                  have h3 := hinv.out.2 n hn
                  rw [e, show ((t : Int)).toNat = t from by simp, hT] at h3
                  exact absurd h3 (by simp)
                have HIN : Hid (InsT ⟨(t : Int), key, tq, mq⟩ ns.length (ns ++ [⟨(t : Int), key, tq, mq⟩])) := Lib.hid (InsT.start hinv.out.1.up fun n hn => twT_no HTB.out n hn)
                have HT2 : Hid (∀ n ∈ ns ++ [(⟨(t : Int), key, tq, mq⟩ : Nt)], (fun k => T k || decide (k = t)) n.s.toNat = true) := Lib.hid fun n hn => by
                  rcases List.mem_append.1 hn with hn | hn
                  · simp [hinv.out.2 n hn]
                  · simp only [List.mem_singleton] at hn
                    subst hn
                    simp
                clear hrun hE9 hE
                go_upto_region 18 with (first | (at_builtin; refine wpList_append_run rfl _ _ 88 rfl HRUN.out rfl rfl ?_))
                have hEn : Env w0 (boxI X [.int .i64 t, .int .u64 key, .int .i64 tq, .int .i64 mq] :: usedMI (B0 + 1) (fun k => T k || decide (k = t)) :: rowKI encT 4 (.slice A9 (ns.length + 1) c9) 128 (ns ++ [⟨(t : Int), key, tq, mq⟩]) :: L) w9 := by
                  have h9 := hE10.sub (.cons _ (List.Sublist.refl _))
                  simpa using h9
                clear hE10 hE8 r8 hus1 hus2 r0
                obtain ⟨b, rfl⟩ := hEn.atT 2 (by simp) rfl (by omega)
                have HNL : Hid (ns.length + 1 ≤ j + 1) := Lib.hid (by omega)
                obtain ⟨x, hx⟩ : ∃ x : Nt, (⟨(t : Int), key, tq, mq⟩ : Nt) = x := ⟨_, rfl⟩
                rw [hx] at hEn HIN HT2 HOKN
                have HXS : Hid (x.s = (t : Int)) := Lib.hid (by rw [← hx])
                have HPM : Hid ((ns ++ [x]).Perm (ns ++ [x]) ∧ (ns ++ [x]).length = ns.length + 1) := Lib.hid ⟨List.Perm.refl _, by simp⟩
                clear hx
                obtain ⟨NS, hNS⟩ : ∃ NS, ns ++ [x] = NS := ⟨_, rfl⟩
                rw [hNS] at hEn HT2
                rw [hNS] at HIN HPM
                have HNS := Lib.hid hNS
                clear hNS
                obtain ⟨T2, hT2⟩ : ∃ T2, (fun k => T k || decide (k = t)) = T2 := ⟨_, rfl⟩
                rw [hT2] at hEn HT2
                clear hT2
                generalize hn0 : ns.length = n0 at *
                have HN0 := Lib.hid hn0
                clear hn0
                have hw1 : wrap64 ((n0 : Int) + 1 - 1) = (n0 : Int) := by rw [w64 _ (by omega)]; omega
                have hw2 : wrap64 (((n0 + 1 : Nat) : Int) - 1) = (n0 : Int) := by rw [w64 _ (by omega)]; omega
                have hw3 : wrap64 (n0 : Int) = (n0 : Int) := w64 _ (by omega)
                go_wp2_with fail
                go_loopw [11] (fun kv wq => ∃ (t1 : Nat) (ms : List Nt), kv = .int .i64 t1 ∧ t1 < n0 + 1 ∧ Hid (ms.length = n0 + 1) ∧ Hid (InsT x t1 ms ∧ ms.Perm NS) ∧ Env w0 (boxI X [.int .i64 t, .int .u64 key, .int .i64 tq, .int .i64 mq] :: usedMI (B0 + 1) T2 :: rowKI encT 4 (.slice (some ⟨b, 0, none⟩) (n0 + 1) c9) 128 ms :: L) wq) (fun kv _ => (intOf kv).toNat)
                case atStart => exact ⟨n0, NS, by rw [hw3], by omega, Lib.hid HPM.out.2, Lib.hid ⟨HIN.out, List.Perm.refl _⟩, hEn⟩
                case round =>
                  clear hEn hw1 hw2 hw3
                  obtain ⟨t1, ms, rfl, ht1, hms, hin, hE⟩ := hrel
                  rcases Nat.eq_zero_or_pos t1 with rfl | ht0
                  · have hb3 : decide (((0 : Nat) : Int) > 0) = false := rfl
                    have hb4 : decide ((0 : Int) > 0) = false := rfl
                    go_wp2_with fail
                    refine wp_text (S := (Env w0 (boxI X [.int .i64 t, .int .u64 key, .int .i64 tq, .int .i64 mq] :: usedMI (B0 + 1) T2 :: rowKI encT 4 (.slice (some ⟨b, 0, none⟩) (n0 + 1) c9) 128 ms :: L))) (by kernel_rfl) (by kernel_rfl) hE.drew (fun hT => ?_)
                    have hT9 := Lib.hid hT
                    clear hT
                    repeat (first
                      | (refine text_value (v := ?_) hT9.out (by rfl) ?_ ?_; rotate_left; (focus (intro w5 hS; skip; go_simp <;> with_reducible rfl)); (try simp only [Act.put, List.setIfInBounds_toArray, List.set_cons_zero, List.set_cons_succ]))
                      | (refine text_off hT9.out (by rfl) ?_; (try simp only [Act.put, List.setIfInBounds_toArray, List.set_cons_zero, List.set_cons_succ]))
                      | (refine text_call (v := ?_) (f := ?_) (args := ?_) hT9.out (by rfl) ?_ ?_ ?_; rotate_left 3; (focus (intro w5 hS; skip; go_simp; constructor <;> with_reducible rfl)); (focus (intro w5 hS; (first | fail))); (try simp only [Act.put, List.setIfInBounds_toArray, List.set_cons_zero, List.set_cons_succ])))
                    refine InText.nil fun w5 hS5 => ?_
                    clear hT9
                    go_wp2_with fail
                    exact ⟨⟨j + 1, ms, some ⟨b, 0, none⟩, c9, T2, by rw [hms.out], by simp, by omega, by omega, by rw [hms.out]; exact HNL.out, Lib.hid ⟨hinv.out.1.ins HOKN.out (fun n hn => by rw [HXS.out]; exact HSL.out n hn) (by rw [HNS.out]; exact hin.out.2) hin.out.1.done0, fun n hn => HT2.out n (hin.out.2.mem_iff.1 hn)⟩, by rw [hms.out]; exact hS5.sub (.cons _ (List.Sublist.refl _))⟩, by simp [intOf]; omega⟩
                  · obtain ⟨s1, rfl⟩ : ∃ s1, t1 = s1 + 1 := ⟨t1 - 1, by omega⟩
                    have hb3 : decide (((s1 : Int) + 1) > 0) = true := by rw [decide_eq_true_iff]; omega
                    have hsN : s1 < n0 + 1 := by omega
                    have hs1 : (s1 : Int) < ((n0 + 1 : Nat) : Int) := by omega
                    have hs1' : (s1 : Int) < (n0 : Int) + 1 := by omega
                    have hs2 : (s1 : Int) + 1 < ((n0 + 1 : Nat) : Int) := by omega
                    have hs2' : (s1 : Int) + 1 < (n0 : Int) + 1 := by omega
                    have hq2 : (0 : Int) ≤ (s1 : Int) + 1 := by omega
                    have hq3 : s1 + 1 < n0 + 1 := ht1
                    have hx1 : ms.getD (s1 + 1) default = x := hin.out.1.at
                    obtain ⟨y, hy⟩ : ∃ y, ms.getD s1 default = y := ⟨_, rfl⟩
                    have HA : Hid (∀ v, Env w0 (boxI X [.int .i64 t, .int .u64 key, .int .i64 tq, .int .i64 mq] :: usedMI (B0 + 1) T2 :: rowKI encT 4 (.slice (some ⟨b, 0, none⟩) (n0 + 1) c9) 128 ms :: L) v → v.cell? ⟨b, (s1 + 1) * 4, none⟩ = some (.int .i64 x.s) ∧ v.cell? ⟨b, (s1 + 1) * 4 + 1, none⟩ = some (.int .u64 x.key) ∧ v.cell? ⟨b, (s1 + 1) * 4 + 2, none⟩ = some (.int .i64 x.top) ∧ v.cell? ⟨b, (s1 + 1) * 4 + 3, none⟩ = some (.int .i64 x.marks)) := Lib.hid fun v hv => hv.cellT 2 hms.out.symm rfl (by rw [hms.out]; exact ht1) hx1
                    have HB : Hid (∀ v, Env w0 (boxI X [.int .i64 t, .int .u64 key, .int .i64 tq, .int .i64 mq] :: usedMI (B0 + 1) T2 :: rowKI encT 4 (.slice (some ⟨b, 0, none⟩) (n0 + 1) c9) 128 ms :: L) v → v.cell? ⟨b, s1 * 4, none⟩ = some (.int .i64 y.s) ∧ v.cell? ⟨b, s1 * 4 + 1, none⟩ = some (.int .u64 y.key) ∧ v.cell? ⟨b, s1 * 4 + 2, none⟩ = some (.int .i64 y.top) ∧ v.cell? ⟨b, s1 * 4 + 3, none⟩ = some (.int .i64 y.marks)) := Lib.hid fun v hv => hv.cellT 2 hms.out.symm rfl (by rw [hms.out]; exact hsN) hy
                    have HX := Lib.hid hx1
                    have HY := Lib.hid hy
                    have hwk : IntKind.i64.wrap (s1 : Int) = (s1 : Int) := by rw [IntKind.wrap_i64]; omega
                    have hwj : wrap64 (s1 : Int) = (s1 : Int) := w64 _ (by omega)
                    clear hx1 hy
                    obtain ⟨xs9, xk, xv, xm⟩ := x
                    obtain ⟨ys9, yk, yv, ym⟩ := y
                    dsimp only at HA HB
                    obtain ⟨q, hq⟩ : ∃ q, decide (xk < yk) = q := ⟨_, rfl⟩
                    go_wp2_with fail
                    refine wp_text (S := (Env w0 (boxI X [.int .i64 t, .int .u64 key, .int .i64 tq, .int .i64 mq] :: usedMI (B0 + 1) T2 :: rowKI encT 4 (.slice (some ⟨b, 0, none⟩) (n0 + 1) c9) 128 ms :: L))) (by kernel_rfl) (by kernel_rfl) hE.drew (fun hT => ?_)
                    have hT9 := Lib.hid hT
                    clear hT
                    repeat (first
                      | (refine text_value (v := ?_) hT9.out (by rfl) ?_ ?_; rotate_left; (focus (intro w5 hS; obtain ⟨a0, a1, a2, a3⟩ := HA.out _ hS; obtain ⟨b0, b1, b2, b3⟩ := HB.out _ hS; go_simp <;> with_reducible rfl)); (try simp only [Act.put, List.setIfInBounds_toArray, List.set_cons_zero, List.set_cons_succ]))
                      | (refine text_off hT9.out (by rfl) ?_; (try simp only [Act.put, List.setIfInBounds_toArray, List.set_cons_zero, List.set_cons_succ]))
                      | (refine text_call (v := ?_) (f := ?_) (args := ?_) hT9.out (by rfl) ?_ ?_ ?_; rotate_left 3; (focus (intro w5 hS; obtain ⟨a0, a1, a2, a3⟩ := HA.out _ hS; obtain ⟨b0, b1, b2, b3⟩ := HB.out _ hS; go_simp; constructor <;> with_reducible rfl)); (focus (intro w5 hS; (first | fail))); (try simp only [Act.put, List.setIfInBounds_toArray, List.set_cons_zero, List.set_cons_succ])))
                    refine InText.nil fun w5 hS5 => ?_
                    clear hT9
                    obtain ⟨a0, a1, a2, a3⟩ := HA.out _ hS5
                    obtain ⟨b0, b1, b2, b3⟩ := HB.out _ hS5
                    cases q
                    · go_wp2_with fail
                      have hupd := hin.out.1.done (by rw [HY.out]; simpa using hq)
                      exact ⟨⟨j + 1, ms, some ⟨b, 0, none⟩, c9, T2, by rw [hms.out], by simp, by omega, by omega, by rw [hms.out]; exact HNL.out, Lib.hid ⟨hinv.out.1.ins HOKN.out (fun n hn => by rw [HXS.out]; exact HSL.out n hn) (by rw [HNS.out]; exact hin.out.2) hupd, fun n hn => HT2.out n (hin.out.2.mem_iff.1 hn)⟩, by rw [hms.out]; exact hS5.sub (.cons _ (List.Sublist.refl _))⟩, by simp [intOf]; omega⟩
                    · have hown := hS5.rowK 2 rfl
                      rw [hms.out] at hown
                      have hb5 : b < w5.heap.size := (hown.lt b rfl).2
                      have zW : ∀ i, w5.frozen? ⟨b, i, none⟩ = false := fun i => hown.frozenAt i
                      clear hown
                      go_wp2_with fail
                      have h1 := hS5.setT 2 hms.out.symm rfl (j := s1 + 1) (by rw [hms.out]; exact ht1) ⟨ys9, yk, yv, ym⟩
                      have h2 := h1.setT 2 (by simp [hms.out]) rfl (j := s1) (by rw [List.length_set, hms.out]; exact hsN) ⟨xs9, xk, xv, xm⟩
                      have h3 := h2.over ((Below.refl _ _).alloc (Nat.le_refl _) (.cells #[.int .i64 xs9, .int .u64 xk, .int .i64 xv, .int .i64 xm] 128))
                      have hsw : swpT ms s1 = (ms.set (s1 + 1) ⟨ys9, yk, yv, ym⟩).set s1 ⟨xs9, xk, xv, xm⟩ := by unfold swpT; rw [HX.out, HY.out]
                      refine ⟨⟨s1, swpT ms s1, rfl, hsN, Lib.hid (by rw [swpT_length]; exact hms.out), Lib.hid ⟨hin.out.1.swap (by rw [HY.out]; simpa using hq), (swpT_perm ms s1 (by rw [hms.out]; exact ht1)).trans hin.out.2⟩, ?_⟩, by simp [intOf]⟩
                      rw [hsw]
                      exact h3
              · go_wp2_with fail
                exact ⟨⟨j + 1, ns, g, c, T, rfl, by simp, by omega, by omega, by omega, hinv, hE.sub (.cons _ (List.Sublist.refl _))⟩, by simp [intOf]; omega⟩
            · rw [hT] at hus1
              go_wp2_with fail
              exact ⟨⟨j + 1, ns, g, c, T, rfl, by simp, by omega, by omega, by omega, hinv, hE.sub (.cons _ (List.Sublist.refl _))⟩, by simp [intOf]; omega⟩
      · have hb1 : decide ((j : Int) < (xs.length : Int)) = true := by simp; omega
        have hb2 : decide ((j : Int) < 30) = false := by simp; omega
        go_wp2_with fail
        go_ret
        exact ⟨g, c, ns, rfl, by omega, hinv.out.1, hE.sub (.cons _ (List.Sublist.refl _))⟩
    · have hb1 : decide ((j : Int) < (xs.length : Int)) = false := by simp; omega
      go_wp2_with fail
      go_ret
      exact ⟨g, c, ns, rfl, by omega, hinv.out.1, hE.sub (.cons _ (List.Sublist.refl _))⟩
end
end Go.Proofs.YtnnjanaclgjneaaGreatDoor

/- The structure of the statements' lists; a program's memory with the words of the reference's. -/
namespace Go.Proofs.YtnnjanaclgjneaaGreatDoor
open Go.RowKit Go.Maps
set_option maxRecDepth 100000

/-- A row of places, as a thing. -/
theorem Env.addPl {w0 w w' : World} {L : List Item} {v : Value} {l : List Plc} (h : Env w0 L w) (ho : w'.ownsRow w.heap.size 105 3 v l.length (flatP l)) (hb : Below w.heap.size w w') : Env w0 (rowKI encP 3 v 105 l :: L) w' :=
  h.add (rowKI encP 3 v 105 l) hb (ownsRow_base ho (Nat.zero_le _)) fun k hk => ho.lt k hk
theorem encP_len (x : Plc) : (encP x).length = 3 := rfl
/-- What is laid so far. -/
def laidF (f : Plc → Int) (l : List Plc) : Plc → Int := fun x => if x ∈ l then f x else 0
theorem laidF_nil (f : Plc → Int) : laidF f [] = fun _ => 0 := by funext x; simp [laidF]
theorem laidF_step {f : Plc → Int} {l : List Plc} {j : Nat} (hj : j < l.length) {x : Plc} (hx : l.getD j z3 = x) : laidF f (l.take (j + 1)) = upd (laidF f (l.take j)) x (f x) := by
  have e : l.take (j + 1) = l.take j ++ [x] := by
    rw [List.take_succ_eq_append_getElem hj, ← hx]
    simp [hj]
  funext y
  rw [e]
  unfold laidF upd
  by_cases hy : y = x
  · subst hy; simp
  · simp [hy]
theorem laidF_all {f : Plc → Int} {l : List Plc} (h : PlacesOf f l) : laidF f l = f := by
  funext y
  unfold laidF
  by_cases hy : y ∈ l
  · rw [if_pos hy]
  · rw [if_neg hy]
    exact (Classical.byContradiction fun h0 => hy ((h.2 y).2 (fun e => h0 e.symm)))
end Go.Proofs.YtnnjanaclgjneaaGreatDoor

/- The contract of nodes: slots that can be, each once. -/
namespace Go.Proofs.YtnnjanaclgjneaaGreatDoor
open Go.RowKit Go.Maps
set_option maxRecDepth 100000

theorem encN_len (x : Nd) : (encN x).length = 4 := rfl
theorem encN_one (x : Nd) : ∀ u ∈ encN x, u.oneCell' = true := by intro u hu; simp [encN] at hu; rcases hu with rfl | rfl | rfl | rfl <;> rfl
theorem infoNd : (Tryz.prog.info? 132).map (fun i => (i.zero, i.size, i.bytes)) = some (some (.agg #[.int .i64 0, .int .u64 0, .int .u64 0, .bool false]), 4, 32) := by kernel_rfl
end Go.Proofs.YtnnjanaclgjneaaGreatDoor

/- The reference's Bit and Level; a skip list that is laid. -/
namespace Go.Proofs.YtnnjanaclgjneaaGreatDoor
open Go.RowKit Go.Maps
set_option maxRecDepth 100000

theorem halfT_in {n : Int} (h : 0 ≤ n ∧ n ≤ 65535) : ∀ k, 0 ≤ halfT n k ∧ halfT n k ≤ 65535
  | 0 => h
  | k + 1 => by
    have ih := halfT_in h k
    show 0 ≤ (halfT n k).tdiv 2 ∧ (halfT n k).tdiv 2 ≤ 65535
    rw [Int.tdiv_eq_ediv_of_nonneg ih.1]
    omega
set_option maxHeartbeats 800000 in
theorem bit_t (n : Int) (k : Nat) (hn : 0 ≤ n ∧ n ≤ 65535) (hk : k ≤ 1000) (w : World) :
    Calls Tryz.prog 106 #[.int .i64 n, .int .i64 (k : Int)] w fun o w' => o = .returned (.bool (bitT n k)) ∧ w' = w := by
  have HH := Lib.hid (halfT_in hn)
  clear hn
  go_enter Tryz.func106, Tryz.ntmps106
  go_wp2_with fail
  go_loopw [0, 5] (fun nv iv wr => ∃ i : Nat, i ≤ k ∧ nv = .int .i64 (halfT n i) ∧ iv = .int .i64 i ∧ wr = w) (fun _ iv _ => k - (intOf iv).toNat)
  case atStart => exact ⟨0, Nat.zero_le _, rfl, rfl, rfl⟩
  case round =>
    obtain ⟨i, hi, rfl, rfl, rfl⟩ := hrel
    by_cases hlt : i < k
    · have hb : decide ((i : Int) < (k : Int)) = true := by simp; omega
      have h9 : wrap64 ((halfT n i).tdiv 2) = halfT n (i + 1) := by
        show _ = (halfT n i).tdiv 2
        have ih := HH.out (i + 1)
        have e : halfT n (i + 1) = (halfT n i).tdiv 2 := rfl
        rw [e] at ih
        exact w64 _ (by omega)
      go_wp2_with fail
      exact ⟨⟨i + 1, by omega, by first | rfl | (rw [h9]), by simp, by first | rfl | trivial⟩, by simp [intOf]; omega⟩
    · have hik : i = k := by omega
      subst hik
      have hb : decide ((i : Int) < (i : Int)) = false := by simp
      have ih := HH.out i
      have h9 : wrap64 ((halfT n i).tmod 2) = (halfT n i).tmod 2 := by
        rw [Int.tmod_eq_emod_of_nonneg ih.1]
        exact w64 _ (by omega)
      have e9 : bitT n i = (halfT n i % 2 == 1) := by unfold bitT; rw [Int.tmod_eq_emod_of_nonneg ih.1]
      have E9 := Lib.hid e9
      clear e9
      go_wp2_with fail
      go_ret
      rw [E9.out]
      exact ⟨rfl, rfl⟩

theorem lvT_take {l : List Nt} {k j : Nat} (hj : j < l.length) : lvT (l.take (j + 1)) k = lvT (l.take j) k ++ (if (k : Int) < (l.getD j default).top then [ndT k (l.getD j default)] else []) := by
  have e : l.take (j + 1) = l.take j ++ [l.getD j default] := by
    rw [List.take_succ_eq_append_getElem hj]
    simp [hj]
  rw [e]
  unfold lvT
  rw [List.filter_append, List.map_append]
  by_cases h : (k : Int) < (l.getD j default).top
  · rw [if_pos h, List.filter_cons_of_pos (by simpa using h)]
    rfl
  · rw [if_neg h, List.filter_cons_of_neg (by simpa using h)]
    rfl
section
variable {w0 w : World} {L : List Item}
set_option maxHeartbeats 6400000 in
theorem level_t (k : Nat) (hk : k ≤ 1000) (ns : List Nt) (g : Option Addr) (c : Nat) (hn : ns.length ≤ 30) (hok : ∀ n ∈ ns, 0 ≤ n.marks ∧ n.marks ≤ 65535) (hE : Env w0 (rowKI encT 4 (.slice g ns.length c) 128 ns :: L) w) :
    Calls Tryz.prog 57 #[.slice g ns.length c, .int .i64 (k : Int)] w fun o w' => ∃ (g' : Option Addr) (c' : Nat), o = .returned (.slice g' (lvT ns k).length c') ∧ Env w0 (rowKI encN 4 (.slice g' (lvT ns k).length c') 132 (lvT ns k) :: rowKI encT 4 (.slice g ns.length c) 128 ns :: L) w' := by
  have hE1 := hE.addEmptyK (enc := encN) (k := 4) w.heap.size rfl 132
  have HOK := Lib.hid hok
  clear hE hok
  go_enter Tryz.func57, Tryz.ntmps57
  go_wp2_with fail
  go_loopw [5, 6] (fun ov iv wr => ∃ (j : Nat) (l : List Nd) (g' : Option Addr) (c' : Nat), ov = .slice g' l.length c' ∧ iv = .int .i64 j ∧ j ≤ ns.length ∧ Hid (l = lvT (ns.take j) k) ∧ Env w0 (rowKI encN 4 (.slice g' l.length c') 132 l :: rowKI encT 4 (.slice g ns.length c) 128 ns :: L) wr) (fun _ iv _ => ns.length - (intOf iv).toNat)
  case atStart => exact ⟨0, [], _, _, rfl, rfl, Nat.zero_le _, Lib.hid rfl, hE1⟩
  case round =>
    clear hE1
    obtain ⟨j, l, g', c', rfl, rfl, hj, hl, hE⟩ := hrel
    by_cases hlt : j < ns.length
    · have hb1 : decide ((j : Int) < (ns.length : Int)) = true := by simp; omega
      have hlt1 : (j : Int) < (ns.length : Int) := by omega
      obtain ⟨b, rfl⟩ := hE.atT 1 rfl rfl (by omega)
      obtain ⟨y, hy⟩ : ∃ y, ns.getD j default = y := ⟨_, rfl⟩
      have hcy : ∀ (z : Item) v, Env w0 (z :: rowKI encT 4 (.slice (some ⟨b, 0, none⟩) ns.length c) 128 ns :: L) v → v.cell? ⟨b, j * 4, none⟩ = some (.int .i64 y.s) ∧ v.cell? ⟨b, j * 4 + 1, none⟩ = some (.int .u64 y.key) ∧ v.cell? ⟨b, j * 4 + 2, none⟩ = some (.int .i64 y.top) ∧ v.cell? ⟨b, j * 4 + 3, none⟩ = some (.int .i64 y.marks) := fun z v hv => hv.cellT 1 rfl rfl hlt hy
      have hym : 0 ≤ y.marks ∧ y.marks ≤ 65535 := HOK.out y (by rw [← hy, List.getD_eq_getElem?_getD, List.getElem?_eq_getElem hlt]; exact List.getElem_mem hlt)
      have hst := lvT_take (k := k) hlt
      rw [hy] at hst
      have HST := Lib.hid hst
      have HBT := Lib.hid fun (v : World) => bit_t y.marks k hym hk v
      obtain ⟨b0, b1, b2, b3⟩ := hcy _ _ hE
      clear hy hst hym
      obtain ⟨ys, yk, yt, ym⟩ := y
      dsimp only at HST HBT hcy b0 b1 b2 b3
      have hll : l.length ≤ 30 := by
        rw [hl.out]
        have h1 := lvT_length (ns.take j) k
        have h2 : (ns.take j).length ≤ ns.length := by rw [List.length_take]; omega
        omega
      by_cases htp : (k : Int) < yt
      · rw [if_pos htp] at HST
        have hb2 : decide (yt > (k : Int)) = true := by simpa using htp
        have hb3 : decide ((k : Int) < yt) = true := by simpa using htp
        clear htp
        obtain ⟨bb, hbb⟩ : ∃ bb, bitT ym k = bb := ⟨_, rfl⟩
        have hnd : ndT k ⟨ys, yk, yt, ym⟩ = ⟨ys, yk, 0, bb⟩ := by unfold ndT; rw [hbb]
        rw [hnd] at HST
        simp only [hbb] at HBT
        clear hbb hnd
        have hE9 := hE.drew.box wr.heap.size rfl (encN ⟨ys, yk, 0, bb⟩) 132
        obtain ⟨A9, c9, w9, hrun, hE10⟩ := hE9.appendK (xs := [(⟨ys, yk, 0, bb⟩ : Nd)]) encN_len (by decide) encN_one 1 rfl 129 129 Tryz.underlying129 rfl infoNd 1 (Blk.rowK (enc := encN) (k := 4) encN_len (l := [(⟨ys, yk, 0, bb⟩ : Nd)]) (show Blk 0 _ _ (flatK encN [(⟨ys, yk, 0, bb⟩ : Nd)]) from hE9.get 0 rfl)) (fun h => by cases h) (by unfold maxLen; simp; omega) (by simp; omega)
        have HRUN := Lib.hid hrun
        have hE11 : Env w0 (rowKI encN 4 (.slice A9 (l.length + 1) c9) 132 (l ++ [⟨ys, yk, 0, bb⟩]) :: rowKI encT 4 (.slice (some ⟨b, 0, none⟩) ns.length c) 128 ns :: L) w9 := by
          have h9 := hE10.sub (.cons _ (List.Sublist.refl _))
          simpa using h9
        have HC0 := Lib.hid (hcy _ _ hE.drew)
        have HC1 := Lib.hid (hcy _ _ (hE9.sub (.cons _ (List.Sublist.refl _))))
        have HC2 := Lib.hid (hcy _ _ hE11)
        have HE11 := Lib.hid hE11
        clear hE9 hE10 hE11 hrun hcy
        go_wp2_with fail
        clear b0 b1 b2 b3
        refine Ord.wp_chain [19, 20] (fun v => v.cell? ⟨b, j * 4, none⟩ = some (.int .i64 ys) ∧ v.cell? ⟨b, j * 4 + 1, none⟩ = some (.int .u64 yk) ∧ v.cell? ⟨b, j * 4 + 2, none⟩ = some (.int .i64 yt) ∧ v.cell? ⟨b, j * 4 + 3, none⟩ = some (.int .i64 ym)) (fun jj v => [wr.drew, wr.drew.alloc (.cells (encN ⟨ys, yk, 0, bb⟩).toArray 132), w9][jj]? = some v) (by kernel_rfl) (by kernel_rfl) (by kernel_rfl) HC0.out rfl (fun hT => ?_)
        have hT9 := Lib.hid hT
        clear hT
        repeat (first
          | (refine Ord.ch_value (v := ?_) hT9.out (by decide) (by rfl) ?_ ?_; rotate_left; (focus (intro w5 hS; obtain ⟨a0, a1, a2, a3⟩ := hS; go_simp <;> with_reducible rfl)); (try simp only [Act.put, List.setIfInBounds_toArray, List.set_cons_zero, List.set_cons_succ]))
          | (refine Ord.ch_off hT9.out (by decide) (by rfl) ?_; (try simp only [Act.put, List.setIfInBounds_toArray, List.set_cons_zero, List.set_cons_succ]))
          | (refine Ord.ch_call (v := ?_) (f := ?_) (args := ?_) hT9.out (by decide) (by rfl) ?_ ?_ ?_; rotate_left 3; (focus (intro w5 hS; obtain ⟨a0, a1, a2, a3⟩ := hS; go_simp; constructor <;> with_reducible rfl)); (focus (intro w5 hS; (first | (with_reducible refine (HBT.out _).mono ?_; rintro e w6 ⟨rfl, rfl⟩; constructor; with_reducible rfl; exact ⟨hS, fun _ h => h⟩)))); (try simp only [Act.put, List.setIfInBounds_toArray, List.set_cons_zero, List.set_cons_succ])))
        refine Ord.ch_turn (v := .slice (some ⟨wr.heap.size, 0, none⟩) 1 1) 0 hT9.out rfl (by decide) (Or.inl rfl) (by rfl) ?_ ?_
        · rintro w5 hC5 hA5
          cases hA5
          go_simp
          simp only [Ord.LandsIn]
          exact ⟨trivial, HC1.out, rfl⟩
        (try simp only [Act.put, List.setIfInBounds_toArray, List.set_cons_zero, List.set_cons_succ])
        refine Ord.ch_turn (v := .slice A9 (l.length + 1) c9) 1 hT9.out rfl (by decide) (Or.inr ⟨_, rfl, by kernel_rfl⟩) (by rfl) ?_ ?_
        · rintro w5 hC5 hA5
          cases hA5
          refine append_lands rfl HRUN.out (by rfl) (by rfl) ⟨HC2.out, rfl⟩
        (try simp only [Act.put, List.setIfInBounds_toArray, List.set_cons_zero, List.set_cons_succ])
        repeat (first
          | (refine Ord.ch_value (v := ?_) hT9.out (by decide) (by rfl) ?_ ?_; rotate_left; (focus (intro w5 hS; skip; go_simp <;> with_reducible rfl)); (try simp only [Act.put, List.setIfInBounds_toArray, List.set_cons_zero, List.set_cons_succ]))
          | (refine Ord.ch_off hT9.out (by decide) (by rfl) ?_; (try simp only [Act.put, List.setIfInBounds_toArray, List.set_cons_zero, List.set_cons_succ])))
        refine Ord.InText.nil fun w5 hS => ?_
        clear hT9
        obtain ⟨hC9, hA9⟩ := Ord.chain_end hS
        clear hS
        cases hA9
        clear hC9 hE
        go_wp2_with fail
        exact ⟨⟨j + 1, l ++ [⟨ys, yk, 0, bb⟩], A9, c9, by simp, by simp, by omega, Lib.hid (by rw [HST.out, ← hl.out]), by simpa using HE11.out⟩, by simp [intOf]; omega⟩
      · rw [if_neg htp, List.append_nil] at HST
        have hb2 : decide (yt > (k : Int)) = false := by simpa using htp
        have hb3 : decide ((k : Int) < yt) = false := by simpa using htp
        clear htp HBT
        go_wp2_with fail
        exact ⟨⟨j + 1, l, g', c', rfl, by simp, by omega, Lib.hid (by rw [HST.out]; exact hl.out), hE⟩, by simp [intOf]; omega⟩
    · have hb1 : decide ((j : Int) < (ns.length : Int)) = false := by simp; omega
      have hjn : j = ns.length := by omega
      have HJ : Hid (l = lvT ns k) := Lib.hid (by rw [hl.out, hjn, List.take_length])
      clear hjn
      go_wp2_with fail
      go_ret
      refine ⟨g', c', by rw [← HJ.out]; rfl, ?_⟩
      rw [← HJ.out]
      exact hE
end
end Go.Proofs.YtnnjanaclgjneaaGreatDoor
