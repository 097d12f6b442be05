/- What is proved on the way to the statement, part 7 of 10: contracts of the functions, among other things in memory. -/
import Derived.Test.YtnnjanaclgjneaaGreatDoorE6
import Derived.Shelf.SlSortCmp.Insertion
import Derived.Sort.Statements
import Derived.LoopIn

/- A Find that goes on alone down a skip list without marks, by plain mathematics: how many steps it has left. -/
namespace Go.Proofs.YtnnjanaclgjneaaGreatDoor
open Go.RowKit Go.Maps
set_option maxRecDepth 100000

/-- What lies ahead, at a level; no link has a mark. -/
def ChL (f : Plc → Int) (lv : Int) : Plc → List Nd → Prop
  | p, [] => slotI (f p) = 0 ∧ markB (f p) = false
  | p, n :: r => slotI (f p) = n.s ∧ markB (f p) = false ∧ f (5, n.s, 3) = n.key ∧ ChL f lv (5, n.s, 7 + lv) r
theorem ChL.mk {f : Plc → Int} {lv : Int} : ∀ {p : Plc} {ns : List Nd}, ChL f lv p ns → markB (f p) = false
  | _, [], h => h.2
  | _, _ :: _, h => h.2.1
/-- How many are looked at. -/
def cntT (K : Int) : List Nd → Nat
  | [] => 0
  | n :: r => if n.key < K then cntT K r + 1 else 1
/-- The last one that is passed. -/
def nxtT (K : Int) : Option Nd → List Nd → Option Nd
  | d, [] => d
  | d, n :: r => if n.key < K then nxtT K (some n) r else d
theorem nxtT_mem {K : Int} {Q : Nd → Prop} : ∀ {ns : List Nd} {d : Option Nd}, (∀ n, d = some n → Q n) → (∀ n ∈ ns, Q n) → ∀ n, nxtT K d ns = some n → Q n
  | [], d, h, _, n, e => h n e
  | m :: r, d, h, h2, n, e => by
    unfold nxtT at e
    by_cases hk : m.key < K
    · rw [if_pos hk] at e
      exact nxtT_mem (fun x hx => by cases hx; exact h2 m (List.mem_cons_self ..)) (fun x hx => h2 x (List.mem_cons_of_mem _ hx)) n e
    · rw [if_neg hk] at e
      exact h n e
/-- Whose link comes next, at a level. -/
def posT (lv : Int) : Option Nd → Plc
  | none => (4, 0, lv)
  | some n => (5, n.s, 7 + lv)
theorem posT_below (lv : Int) (d : Option Nd) : belowP (posT lv d) = posT (lv - 1) d := by
  cases d with
  | none => rfl
  | some n => unfold belowP posT; simp; omega
/-- How a lane stands; how many steps it has left. -/
def LaT (lv key : Int) (L : Lm) (f : Plc → Int) (d : Option Nd) (ns : List Nd) (mu : Nat) : Prop :=
  L.p = posT lv d ∧ ChL f lv L.p ns ∧ (∀ n ∈ ns, 1 ≤ n.s) ∧ (
    (L.pc = 0 ∧ mu = 4 * cntT key ns + 2) ∨
    (L.pc = 2 ∧ L.W = f L.p ∧ mu = 4 * cntT key ns + 1) ∨
    (∃ n r, ns = n :: r ∧ L.C = n.s ∧ (
      (L.pc = 3 ∧ mu = 4 * cntT key ns) ∨
      (L.pc = 4 ∧ L.X = f (5, n.s, 7 + lv) ∧ mu + 1 = 4 * cntT key ns) ∨
      (L.pc = 6 ∧ L.X = f (5, n.s, 7 + lv) ∧ mu + 2 = 4 * cntT key ns) ∨
      (L.pc = 7 ∧ L.X = f (5, n.s, 7 + lv) ∧ L.K = n.key ∧ mu + 3 = 4 * cntT key ns))))
theorem LaT.pc5 {lv key : Int} {L : Lm} {f : Plc → Int} {d : Option Nd} {ns : List Nd} {mu : Nat} (h : LaT lv key L f d ns mu) : L.pc ≠ 5 := by
  obtain ⟨-, -, -, h | h | ⟨n, r, -, -, h | h | h | h⟩⟩ := h
  all_goals
    have h1 := h.1
    omega
theorem come_t {lv key : Int} {L : Lm} {f : Plc → Int} {d : Option Nd} {ns : List Nd} {W : Int} (hp : L.p = posT lv d) (hc : ChL f lv L.p ns) (hs : ∀ n ∈ ns, 1 ≤ n.s) (hW : W = f L.p) :
    ((comeM L W).1 = 0 ∧ ns ≠ [] ∧ LaT lv key (comeM L W).2 f d ns (4 * cntT key ns)) ∨ ((comeM L W).1 = 1 ∧ ns = [] ∧ (comeM L W).2.p = posT lv d) := by
  match ns, hc with
  | [], hc =>
    right
    have h0 : slotI W = 0 := by rw [hW]; exact hc.1
    unfold comeM
    rw [if_pos h0]
    exact ⟨rfl, rfl, hp⟩
  | n :: r, hc =>
    left
    have h1 : slotI W = n.s := by rw [hW]; exact hc.1
    have h2 := hs n (List.mem_cons_self ..)
    unfold comeM
    rw [if_neg (by rw [h1]; omega)]
    exact ⟨rfl, by simp, hp, hc, hs, .inr (.inr ⟨n, r, rfl, h1, .inl ⟨rfl, rfl⟩⟩)⟩

theorem lat_step {lv key e : Int} {L : Lm} {f : Plc → Int} {d : Option Nd} {ns : List Nd} {mu : Nat} (hok : okB (f (1, 0, 0)) e = true) (h : LaT lv key L f d ns mu) :
    ((laneM lv key false e L f).1 = 0 ∧ (laneM lv key false e L f).2.2 = f ∧ ∃ d' ns' mu', LaT lv key (laneM lv key false e L f).2.1 f d' ns' mu' ∧ mu = mu' + 1 ∧ nxtT key d' ns' = nxtT key d ns ∧ (∀ Q : Nd → Prop, (∀ n, d = some n → Q n) → (∀ n ∈ ns, Q n) → (∀ n, d' = some n → Q n) ∧ (∀ n ∈ ns', Q n))) ∨
    ((laneM lv key false e L f).1 = 1 ∧ (laneM lv key false e L f).2.2 = f ∧ mu = 1 ∧ (laneM lv key false e L f).2.1.p = posT lv (nxtT key d ns)) := by
  obtain ⟨hp, hc, hs, h⟩ := h
  have same : ∀ Q : Nd → Prop, (∀ n, d = some n → Q n) → (∀ n ∈ ns, Q n) → (∀ n, d = some n → Q n) ∧ (∀ n ∈ ns, Q n) := fun Q h1 h2 => ⟨h1, h2⟩
  rcases h with ⟨hpc, hmu⟩ | ⟨hpc, hW, hmu⟩ | ⟨n, r, hns, hC, h⟩
  · have hM : laneM lv key false e L f = (0, { L with W := f L.p, pc := 2 }, f) := by simp [laneM, hpc]
    rw [hM]
    exact .inl ⟨rfl, rfl, d, ns, _, ⟨hp, hc, hs, .inr (.inl ⟨rfl, rfl, rfl⟩)⟩, by omega, rfl, same⟩
  · have hM : laneM lv key false e L f = ((comeM L L.W).1, (comeM L L.W).2, f) := by
      have : markB L.W = false := by rw [hW]; exact hc.mk
      simp [laneM, holdsM, hpc, hok, this]
    rw [hM]
    rcases come_t (key := key) hp hc hs hW with ⟨h1, -, h2⟩ | ⟨h1, h2, h3⟩
    · exact .inl ⟨h1, rfl, d, ns, _, h2, by omega, rfl, same⟩
    · subst h2
      exact .inr ⟨h1, rfl, by simpa [cntT] using hmu, h3⟩
  · subst hns
    obtain ⟨c1, c2, c3, c4⟩ := hc
    have hc : ChL f lv L.p (n :: r) := ⟨c1, c2, c3, c4⟩
    rcases h with ⟨hpc, hmu⟩ | ⟨hpc, hX, hmu⟩ | ⟨hpc, hX, hmu⟩ | ⟨hpc, hX, hK, hmu⟩
    · have hM : laneM lv key false e L f = (0, { L with X := f (5, n.s, 7 + lv), pc := 4 }, f) := by rw [← hC]; simp [laneM, hpc]
      rw [hM]
      have hcn : 1 ≤ cntT key (n :: r) := by unfold cntT; split <;> omega
      exact .inl ⟨rfl, rfl, d, n :: r, 4 * cntT key (n :: r) - 1, ⟨hp, hc, hs, .inr (.inr ⟨n, r, rfl, hC, .inr (.inl ⟨rfl, rfl, by omega⟩)⟩)⟩, by omega, rfl, same⟩
    · have hmk : markB L.X = false := by rw [hX]; exact c4.mk
      have hM : laneM lv key false e L f = (0, { L with pc := 6 }, f) := by simp [laneM, holdsM, hpc, hok, hmk]
      rw [hM]
      have hcn : 1 ≤ cntT key (n :: r) := by unfold cntT; split <;> omega
      exact .inl ⟨rfl, rfl, d, n :: r, 4 * cntT key (n :: r) - 2, ⟨hp, hc, hs, .inr (.inr ⟨n, r, rfl, hC, .inr (.inr (.inl ⟨rfl, hX, by omega⟩))⟩)⟩, by omega, rfl, same⟩
    · have hM : laneM lv key false e L f = (0, { L with K := n.key, pc := 7 }, f) := by rw [← c3, ← hC]; simp [laneM, hpc]
      rw [hM]
      have hcn : 1 ≤ cntT key (n :: r) := by unfold cntT; split <;> omega
      exact .inl ⟨rfl, rfl, d, n :: r, 4 * cntT key (n :: r) - 3, ⟨hp, hc, hs, .inr (.inr ⟨n, r, rfl, hC, .inr (.inr (.inr ⟨rfl, hX, rfl, by omega⟩))⟩)⟩, by omega, rfl, same⟩
    · by_cases hlt : n.key < key
      · have hM : laneM lv key false e L f = ((comeM { L with p := (5, n.s, 7 + lv) } L.X).1, (comeM { L with p := (5, n.s, 7 + lv) } L.X).2, f) := by
          rw [← hC]
          simp [laneM, holdsM, hpc, hok, hK, hlt]
        rw [hM]
        have hcn : cntT key (n :: r) = cntT key r + 1 := by rw [cntT, if_pos hlt]
        have hnx : nxtT key d (n :: r) = nxtT key (some n) r := by rw [nxtT, if_pos hlt]
        rcases come_t (key := key) (L := { L with p := (5, n.s, 7 + lv) }) (d := some n) rfl c4 (fun m hm => hs m (List.mem_cons_of_mem _ hm)) hX with ⟨h1, -, h2⟩ | ⟨h1, h2, h3⟩
        · exact .inl ⟨h1, rfl, some n, r, _, h2, by omega, hnx.symm, fun Q _ q2 => ⟨fun m hm => by cases hm; exact q2 n (List.mem_cons_self ..), fun m hm => q2 m (List.mem_cons_of_mem _ hm)⟩⟩
        · subst h2
          rw [hnx]
          exact .inr ⟨h1, rfl, by rw [hcn] at hmu; simp only [cntT] at hmu; omega, h3⟩
      · have hcn : cntT key (n :: r) = 1 := by rw [cntT, if_neg hlt]
        have hnx : nxtT key d (n :: r) = d := by rw [nxtT, if_neg hlt]
        rw [hnx]
        by_cases heq : n.key = key
        · have hM : laneM lv key false e L f = (1, { L with fd := true }, f) := by simp [laneM, holdsM, hpc, hok, hK, heq]
          rw [hM]
          exact .inr ⟨rfl, rfl, by omega, hp⟩
        · have hM : laneM lv key false e L f = (1, L, f) := by simp [laneM, holdsM, hpc, hok, hK, hlt, heq]
          rw [hM]
          exact .inr ⟨rfl, rfl, by omega, hp⟩

/-- What of a level stands behind one. -/
def restT (l : List Nd) (d : Option Nd) : List Nd := match d with | none => l | some n => l.filter fun m => n.key < m.key
theorem restT_mem {l : List Nd} {d : Option Nd} {n : Nd} (h : n ∈ restT l d) : n ∈ l := by
  cases d with
  | none => exact h
  | some m => exact (List.mem_filter.1 h).1
/-- How many steps it is from a level's lane on. -/
def costT (lev : Nat → List Nd) (K : Int) : Nat → Option Nd → Nat
  | 0, d => 4 * cntT K (restT (lev 0) d) + 2
  | k + 1, d => 4 * cntT K (restT (lev (k + 1)) d) + 2 + costT lev K k (nxtT K d (restT (lev (k + 1)) d))
def lowT (lev : Nat → List Nd) (K : Int) (k : Nat) (d : Option Nd) : Nat := match k with | 0 => 0 | k + 1 => costT lev K k d
theorem costT_eq (lev : Nat → List Nd) (K : Int) (k : Nat) (d : Option Nd) : costT lev K k d = 4 * cntT K (restT (lev k) d) + 2 + lowT lev K k (nxtT K d (restT (lev k) d)) := by cases k <;> rfl
theorem ChL.rest {f : Plc → Int} {lv : Int} {n : Nd} : ∀ {ns : List Nd} {p : Plc}, ChL f lv p ns → ns.Pairwise (fun a b => a.key < b.key) → n ∈ ns → ChL f lv (5, n.s, 7 + lv) (ns.filter fun m => n.key < m.key)
  | [], _, _, _, h => by cases h
  | m :: r, _, ⟨_, _, _, h4⟩, hp, h => by
    obtain ⟨h1, h2⟩ := List.pairwise_cons.1 hp
    rcases List.mem_cons.1 h with rfl | hm
    · rw [List.filter_cons_of_neg (by simp), List.filter_eq_self.2 (fun a ha => by simpa using h1 a ha)]
      exact h4
    · have := h1 n hm
      rw [List.filter_cons_of_neg (by simp; omega)]
      exact h4.rest h2 hm
/-- A skip list that lies in the memory, level by level. -/
structure SkT (lev : Nat → List Nd) (h : Nat) (f : Plc → Int) : Prop where
  ep : f (1, 0, 0) = 5
  ch : ∀ k, k < h → ChL f k (4, 0, k) (lev k)
  up : ∀ k, k < h → (lev k).Pairwise fun a b => a.key < b.key
  sub : ∀ k, k + 1 < h → ∀ n ∈ lev (k + 1), n ∈ lev k
  pos : ∀ k, k < h → ∀ n ∈ lev k, 1 ≤ n.s
theorem SkT.at {lev : Nat → List Nd} {h : Nat} {f : Plc → Int} (H : SkT lev h f) {k : Nat} (hk : k < h) {d : Option Nd} (hd : ∀ n, d = some n → n ∈ lev k) : ChL f k (posT k d) (restT (lev k) d) := by
  cases d with
  | none => exact H.ch k hk
  | some n => exact (H.ch k hk).rest (H.up k hk) (hd n rfl)
/-- How a Find stands; how many steps it has left. -/
def FiT (lev : Nat → List Nd) (h : Nat) (key : Int) (F : Fm) (f : Plc → Int) (mu : Nat) : Prop :=
  (F.on = false ∧ mu = costT lev key (h - 1) none + 1) ∨
  (F.on = true ∧ F.lv < h ∧ F.e = 5 ∧ ∃ d ns m1, (∀ n, d = some n → n ∈ lev F.lv) ∧ (∀ n ∈ ns, n ∈ lev F.lv) ∧ LaT F.lv key (F.L F.lv) f d ns m1 ∧ mu = m1 + lowT lev key F.lv (nxtT key d ns))
theorem lat_start {lev : Nat → List Nd} {h : Nat} {f : Plc → Int} (H : SkT lev h f) {k : Nat} (hk : k < h) {d : Option Nd} (hd : ∀ n, d = some n → n ∈ lev k) (key : Int) : LaT k key (L0 (posT k d)) f d (restT (lev k) d) (4 * cntT key (restT (lev k) d) + 2) :=
  ⟨rfl, H.at hk hd, fun n hn => H.pos k hk n (restT_mem hn), .inl ⟨rfl, rfl⟩⟩
theorem fit_step {lev : Nat → List Nd} {h : Nat} {key : Int} {F : Fm} {f : Plc → Int} {mu : Nat} (hh : 1 ≤ h) (H : SkT lev h f) (hF : FiT lev h key F f mu) :
    (F.on = true → (F.L F.lv).pc ≠ 5) ∧ (downM h key F f).2.2 = f ∧ (((downM h key F f).1 = 0 ∧ ∃ mu', FiT lev h key (downM h key F f).2.1 f mu' ∧ mu = mu' + 1) ∨ ((downM h key F f).1 = 1 ∧ mu = 1)) := by
  rcases hF with ⟨hoff, hmu⟩ | ⟨hon, hlt, he, d, ns, m1, hd, hns, hL, hmu⟩
  · refine ⟨fun h => absurd h (by rw [hoff]; decide), ?_⟩
    unfold downM
    rw [if_neg (by rw [hoff]; decide)]
    refine ⟨rfl, .inl ⟨rfl, costT lev key (h - 1) none, .inr ⟨rfl, ?_, ?_, none, lev (h - 1), 4 * cntT key (lev (h - 1)) + 2, by simp, fun n hn => hn, ?_, ?_⟩, hmu⟩⟩
    · show h - 1 < h
      omega
    · show epI (f (1, 0, 0)) = 5
      rw [H.ep]
      decide
    · show LaT _ key (setN (α := Lm) _ _ _ (h - 1)) f none _ _
      rw [setN_same]
      exact lat_start H (show h - 1 < h by omega) (d := none) (by simp) key
    · exact costT_eq lev key (h - 1) none
  · refine ⟨fun _ => hL.pc5, ?_⟩
    have hok : okB (f (1, 0, 0)) F.e = true := by rw [H.ep, he]; decide
    unfold downM
    rw [if_pos hon]
    dsimp only
    rcases lat_step hok hL with ⟨h1, h2, d', ns', mu', h3, h4, h5, h6⟩ | ⟨h1, h2, h3, h4⟩
    · obtain ⟨q1, q2⟩ := h6 (fun n => n ∈ lev F.lv) hd hns
      rw [if_neg (by rw [h1]; simp), if_neg (by rw [h1]; decide), if_neg (by rw [h1]; simp), h2]
      refine ⟨rfl, .inl ⟨rfl, mu' + lowT lev key F.lv (nxtT key d' ns'), .inr ⟨hon, hlt, he, d', ns', mu', q1, q2, ?_, rfl⟩, by rw [hmu, h4, h5]; omega⟩⟩
      show LaT _ key (setN (α := Lm) _ _ _ F.lv) f d' ns' mu'
      rw [setN_same]
      exact h3
    · have hm := nxtT_mem (K := key) (Q := fun n => n ∈ lev F.lv) hd hns
      by_cases h0 : F.lv = 0
      · rw [if_pos ⟨h1, h0⟩, h2]
        refine ⟨rfl, .inr ⟨rfl, ?_⟩⟩
        rw [hmu, h3, h0]
        rfl
      · obtain ⟨k, hk⟩ : ∃ k, F.lv = k + 1 := ⟨F.lv - 1, by omega⟩
        rw [if_neg (fun hx => h0 hx.2), if_neg (by rw [h1]; decide), if_pos ⟨h1, h0⟩, h2]
        have hkk : F.lv - 1 = k := by omega
        have hd2 : ∀ n, nxtT key d ns = some n → n ∈ lev k := fun n hn => H.sub k (by omega) n (by rw [← hk]; exact hm n hn)
        refine ⟨rfl, .inl ⟨rfl, costT lev key k (nxtT key d ns), .inr ⟨hon, ?_, he, nxtT key d ns, restT (lev k) (nxtT key d ns), 4 * cntT key (restT (lev k) (nxtT key d ns)) + 2, ?_, ?_, ?_, ?_⟩, ?_⟩⟩
        · show F.lv - 1 < h
          omega
        · show ∀ n, _ → n ∈ lev (F.lv - 1)
          rw [hkk]
          exact hd2
        · show ∀ n ∈ _, n ∈ lev (F.lv - 1)
          rw [hkk]
          exact fun n hn => restT_mem hn
        · show LaT ((F.lv - 1 : Nat) : Int) key (setN (α := Lm) _ _ _ (F.lv - 1)) f _ _ _
          rw [setN_same, h4, posT_below, hkk, show ((F.lv : Int) - 1) = (k : Int) by omega]
          exact lat_start H (show k < h by omega) hd2 key
        · show _ = _ + lowT lev key (F.lv - 1) _
          rw [hkk]
          exact costT_eq lev key k _
        · rw [hmu, h3, hk]
          show 1 + costT lev key k _ = _
          omega
end Go.Proofs.YtnnjanaclgjneaaGreatDoor

/- A skip list that is laid, level by level: what lies in the memory. -/
namespace Go.Proofs.YtnnjanaclgjneaaGreatDoor
open Go.RowKit Go.Maps
set_option maxRecDepth 100000

/-- A slot that stands in a skip list. -/
structure Nt where
  (s key top marks : Int)
instance : Inhabited Nt := ⟨⟨0, 0, 0, 0⟩⟩
def encT (n : Nt) : List Value := [.int .i64 n.s, .int .u64 n.key, .int .i64 n.top, .int .i64 n.marks]
/-- A bit of a number. -/
def halfT (n : Int) : Nat → Int
  | 0 => n
  | k + 1 => (halfT n k).tdiv 2
def bitT (n : Int) (k : Nat) : Bool := (halfT n k).tmod 2 == 1
/-- What stands at a level. -/
def ndT (k : Nat) (n : Nt) : Nd := ⟨n.s, n.key, 0, bitT n.marks k⟩
def lvT (l : List Nt) (k : Nat) : List Nd := (l.filter fun n => (k : Int) < n.top).map (ndT k)
/-- The memory with so many levels. -/
def layH (l : List Nt) : Nat → List OneR
  | 0 => []
  | k + 1 => layL k 5 (lvT l k) (4, 0, k) false (setL (layH l k) (1, 0, 0) 5)
theorem lvT_length (l : List Nt) (k : Nat) : (lvT l k).length ≤ l.length := by
  unfold lvT
  rw [List.length_map]
  exact List.length_filter_le _ _
theorem layH_length (l : List Nt) (hl : l.length ≤ 30) : ∀ k, (layH l k).length ≤ 92 * k
  | 0 => by simp [layH]
  | k + 1 => by
    have h1 := layL_length k 5 (lvT l k) (4, 0, k) false (setL (layH l k) (1, 0, 0) 5)
    have h2 := setL_length (1, 0, 0) 5 (layH l k)
    have h3 := lvT_length l k
    have h4 := layH_length l hl k
    show (layL _ _ _ _ _ _).length ≤ _
    omega
def NtOk (h : Nat) (n : Nt) : Prop := (1 ≤ n.s ∧ n.s ≤ 1000) ∧ InU n.key ∧ (1 ≤ n.top ∧ n.top ≤ h) ∧ (0 ≤ n.marks ∧ n.marks ≤ 65535)
theorem lvT_ok {h : Nat} {l : List Nt} (hl : ∀ n ∈ l, NtOk h n) (k : Nat) : ∀ n ∈ lvT l k, NdOk n := by
  intro n hn
  obtain ⟨m, hm, rfl⟩ := List.mem_map.1 hn
  have := hl m (List.mem_filter.1 hm).1
  exact ⟨this.1, this.2.1, by simp [ndT, InU]⟩
theorem layH_words {h : Nat} {l : List Nt} (hl : ∀ n ∈ l, NtOk h n) : ∀ k, k ≤ 1000 → Words (getL (layH l k))
  | 0, _ => Words.zero
  | k + 1, hk => words_lay (lv := k) (e := 5) (by omega) (lvT l k) _ _ _ (lvT_ok hl k) (by unfold Wf In64; simp; omega) ((layH_words hl k (by omega)).setL (by unfold Wf In64; simp) (by simp [InU]))

theorem setL_at' (l : List OneR) (p : Plc) (v : Int) (x : Plc) : getL (setL l p v) x = if x = p then v else getL l x := by rw [getL_set]; rfl
theorem lnk5 {s : Int} (h : 0 ≤ s ∧ s ≤ 1000) : slotI (lnk false s 5) = s ∧ markB (lnk false s 5) = false := by
  have hL : isL s 5 = true := isL_mk h.1 (by omega) (by decide) (by decide)
  exact ⟨slot_word hL, mark_word hL⟩
/-- A cell that is no key's, no value's. -/
def NoKV' (q : Plc) : Prop := ∀ s : Int, ((5, s, 3) : Plc) ≠ q ∧ ((5, s, 4) : Plc) ≠ q
theorem lay_chL (lv : Int) (h0 : 0 ≤ lv) : ∀ (ns : List Nd) (p : Plc) (l : List OneR), (ns.map (·.s)).Nodup → (∀ n ∈ ns, (1 ≤ n.s ∧ n.s ≤ 1000) ∧ n.mb = false) → NoKV' p → (∀ n ∈ ns, p ≠ (5, n.s, 7 + lv)) →
    (∀ x, x ≠ p → (∀ n ∈ ns, x ≠ (5, n.s, 3) ∧ x ≠ (5, n.s, 4) ∧ x ≠ (5, n.s, 7 + lv)) → getL (layL lv 5 ns p false l) x = getL l x) ∧ ChL (getL (layL lv 5 ns p false l)) lv p ns
  | [], p, l, _, _, _, _ => by
    have h := lnk5 (s := 0) (by omega)
    refine ⟨fun x hx _ => by show getL (setL _ _ _) x = _; rw [setL_at', if_neg hx], ?_, ?_⟩
    · show slotI (getL (setL _ _ _) p) = 0; rw [setL_at', if_pos rfl]; exact h.1
    · show markB (getL (setL _ _ _) p) = false; rw [setL_at', if_pos rfl]; exact h.2
  | n :: r, p, l, hn, hr, hp, ho => by
    rw [List.map_cons, List.nodup_cons] at hn
    obtain ⟨hn1, hn2⟩ := hn
    have hnr : ∀ m ∈ r, n.s ≠ m.s := fun m hm e => hn1 (by rw [e]; exact List.mem_map.2 ⟨m, hm, rfl⟩)
    obtain ⟨hnm, hmb⟩ := hr n (List.mem_cons_self ..)
    have h := lnk5 (s := n.s) (by omega)
    obtain ⟨l3, hl3⟩ : ∃ l3, setL (setL (setL l p (lnk false n.s 5)) (5, n.s, 3) n.key) (5, n.s, 4) n.val = l3 := ⟨_, rfl⟩
    have hlk : NoKV' (5, n.s, 7 + lv) := fun s => ⟨by simp; omega, by simp; omega⟩
    obtain ⟨i1, i2⟩ := lay_chL lv h0 r (5, n.s, 7 + lv) l3 hn2 (fun m hm => hr m (List.mem_cons_of_mem _ hm)) hlk (fun m hm => by simpa using hnr m hm)
    have hgo : layL lv 5 (n :: r) p false l = layL lv 5 r (5, n.s, 7 + lv) false l3 := by rw [← hl3, ← hmb]; rfl
    rw [hgo]
    have h3 : ∀ x, getL l3 x = if x = (5, n.s, 4) then n.val else if x = (5, n.s, 3) then n.key else if x = p then lnk false n.s 5 else getL l x := fun x => by rw [← hl3, setL_at', setL_at', setL_at']
    have hpp : getL (layL lv 5 r (5, n.s, 7 + lv) false l3) p = lnk false n.s 5 := by
      rw [i1 p (ho n (List.mem_cons_self ..)) fun m hm => ⟨(hp m.s).1.symm, (hp m.s).2.symm, ho m (List.mem_cons_of_mem _ hm)⟩, h3, if_neg (hp n.s).2.symm, if_neg (hp n.s).1.symm, if_pos rfl]
    have hkk : getL (layL lv 5 r (5, n.s, 7 + lv) false l3) (5, n.s, 3) = n.key := by
      rw [i1 _ (by simp; omega) fun m hm => ⟨by simpa using hnr m hm, by simp, by simp; omega⟩, h3, if_neg (by simp), if_pos rfl]
    refine ⟨fun x hx hxo => ?_, ⟨by rw [hpp]; exact h.1, by rw [hpp]; exact h.2, hkk, i2⟩⟩
    obtain ⟨a1, a2, a3⟩ := hxo n (List.mem_cons_self ..)
    rw [i1 x a3 fun m hm => hxo m (List.mem_cons_of_mem _ hm), h3, if_neg a2, if_neg a1, if_neg hx]
theorem ChL.key {f : Plc → Int} {lv : Int} : ∀ {ns : List Nd} {p : Plc}, ChL f lv p ns → ∀ n ∈ ns, f (5, n.s, 3) = n.key
  | [], _, _, n, h => by cases h
  | m :: r, _, ⟨_, _, h3, h4⟩, n, h => by
    rcases List.mem_cons.1 h with rfl | hm
    · exact h3
    · exact h4.key n hm
theorem ChL.other {f g : Plc → Int} {lv : Int} : ∀ {ns : List Nd} {p : Plc}, ChL f lv p ns → g p = f p → (∀ n ∈ ns, g (5, n.s, 3) = n.key ∧ g (5, n.s, 7 + lv) = f (5, n.s, 7 + lv)) → ChL g lv p ns
  | [], _, h, hp, _ => by
    show slotI _ = 0 ∧ markB _ = false
    rw [hp]
    exact h
  | n :: r, _, ⟨h1, h2, h3, h4⟩, hp, ha => by
    obtain ⟨a1, a2⟩ := ha n (List.mem_cons_self ..)
    exact ⟨by rw [hp]; exact h1, by rw [hp]; exact h2, a1, h4.other a2 fun m hm => ha m (List.mem_cons_of_mem _ hm)⟩
/-- Slots that can be, each once, by rising keys. -/
structure SortT (h : Nat) (l : List Nt) : Prop where
  ok : ∀ n ∈ l, NtOk h n
  nd : (l.map (·.s)).Nodup
  up : l.Pairwise fun a b => a.key < b.key
theorem halfT_zero : ∀ k, halfT 0 k = 0
  | 0 => rfl
  | k + 1 => by show (halfT 0 k).tdiv 2 = 0; rw [halfT_zero k]; rfl
theorem bitT_zero (k : Nat) : bitT 0 k = false := by unfold bitT; rw [halfT_zero]; rfl
theorem nodup_inj {l : List Nt} (h : (l.map (·.s)).Nodup) {a b : Nt} (ha : a ∈ l) (hb : b ∈ l) (e : a.s = b.s) : a = b := by
  induction l with
  | nil => cases ha
  | cons c r ih =>
    rw [List.map_cons, List.nodup_cons] at h
    rcases List.mem_cons.1 ha with h1 | h1 <;> rcases List.mem_cons.1 hb with h2 | h2
    · rw [h1, h2]
    · exact absurd (List.mem_map.2 ⟨b, h2, by rw [← e, h1]⟩) h.1
    · exact absurd (List.mem_map.2 ⟨a, h1, by rw [e, h2]⟩) h.1
    · exact ih h.2 h1 h2
section
variable {h : Nat} {l : List Nt}
theorem lvT_mem {k : Nat} {n : Nd} (hn : n ∈ lvT l k) : ∃ m ∈ l, (k : Int) < m.top ∧ n = ndT k m := by
  obtain ⟨m, hm, rfl⟩ := List.mem_map.1 hn
  obtain ⟨h1, h2⟩ := List.mem_filter.1 hm
  exact ⟨m, h1, by simpa using h2, rfl⟩
theorem lvT_nd (H : SortT h l) (k : Nat) : ((lvT l k).map (·.s)).Nodup := by
  unfold lvT
  rw [List.map_map]
  have h2 : ((l.filter fun n => (k : Int) < n.top).map (·.s)).Nodup := H.nd.sublist (List.filter_sublist.map _)
  exact h2
theorem lay_all (H : SortT h l) (h0 : ∀ n ∈ l, n.marks = 0) : ∀ j, (1 ≤ j → getL (layH l j) (1, 0, 0) = 5) ∧ ∀ k, k < j → ChL (getL (layH l j)) k (4, 0, k) (lvT l k)
  | 0 => ⟨fun h => absurd h (by omega), fun k hk => absurd hk (by omega)⟩
  | j + 1 => by
    obtain ⟨ih1, ih2⟩ := lay_all H h0 j
    have hr : ∀ n ∈ lvT l j, (1 ≤ n.s ∧ n.s ≤ 1000) ∧ n.mb = false := fun n hn => by
      obtain ⟨m, hm, -, rfl⟩ := lvT_mem hn
      exact ⟨(H.ok m hm).1, by show bitT m.marks j = false; rw [h0 m hm, bitT_zero]⟩
    obtain ⟨i1, i2⟩ := lay_chL (j : Int) (by omega) (lvT l j) (4, 0, j) (setL (layH l j) (1, 0, 0) 5) (lvT_nd H j) hr (fun s => ⟨by simp, by simp⟩) (fun n _ => by simp)
    refine ⟨fun _ => ?_, fun k hk => ?_⟩
    · show getL (layL _ _ _ _ _ _) _ = 5
      rw [i1 _ (by simp) fun n _ => ⟨by simp, by simp, by simp⟩, setL_at', if_pos rfl]
    · by_cases hkj : k = j
      · subst hkj
        exact i2
      · have hc := ih2 k (by omega)
        refine hc.other ?_ fun n hn => ⟨?_, ?_⟩
        · show getL (layL _ _ _ _ _ _) _ = _
          rw [i1 _ (by simp; omega) fun n _ => ⟨by simp, by simp, by simp⟩, setL_at', if_neg (by simp)]
        · show getL (layL _ _ _ _ _ _) _ = _
          by_cases hm : ∃ m ∈ lvT l j, m.s = n.s
          · obtain ⟨m, hm, e⟩ := hm
            have h1 := i2.key m hm
            rw [e] at h1
            rw [h1]
            obtain ⟨m', hm', -, rfl⟩ := lvT_mem hm
            obtain ⟨n', hn', -, rfl⟩ := lvT_mem hn
            have : m' = n' := nodup_inj H.nd hm' hn' e
            rw [this]
            rfl
          · rw [i1 _ (by simp) fun m hm' => ⟨fun e => hm ⟨m, hm', by simpa using e.symm⟩, by simp, by simp; omega⟩, setL_at', if_neg (by simp)]
            exact hc.key n hn
        · show getL (layL _ _ _ _ _ _) _ = _
          rw [i1 _ (by simp) fun m _ => ⟨by simp; omega, by simp; omega, by simp; omega⟩, setL_at', if_neg (by simp)]
/-- So a skip list without marks lies. -/
theorem lay_sk (H : SortT h l) (h0 : ∀ n ∈ l, n.marks = 0) (hh : 1 ≤ h) : SkT (lvT l) h (getL (layH l h)) := by
  obtain ⟨h1, h2⟩ := lay_all H h0 h
  refine ⟨h1 hh, h2, fun k hk => ?_, fun k hk n hn => ?_, fun k hk n hn => ?_⟩
  · unfold lvT
    rw [List.pairwise_map]
    exact (H.up.sublist List.filter_sublist)
  · obtain ⟨m, hm, ht, rfl⟩ := lvT_mem hn
    refine List.mem_map.2 ⟨m, List.mem_filter.2 ⟨hm, by simp; omega⟩, ?_⟩
    unfold ndT
    rw [h0 m hm, bitT_zero, bitT_zero]
  · obtain ⟨m, hm, ht, rfl⟩ := lvT_mem hn
    exact (H.ok m hm).1.1
end
end Go.Proofs.YtnnjanaclgjneaaGreatDoor

/- How many steps a Find has, as the law reckons it. -/
namespace Go.Proofs.YtnnjanaclgjneaaGreatDoor
open Go.RowKit Go.Maps
set_option maxRecDepth 100000

def dkey (d : Option Nd) : Int := match d with | none => 0 | some n => n.key
theorem cntT_le (K : Int) : ∀ l : List Nd, cntT K l ≤ l.length
  | [] => Nat.le_refl _
  | n :: r => by
    have := cntT_le K r
    unfold cntT
    split
    · simp; omega
    · simp
theorem restT_len (l : List Nd) (d : Option Nd) : (restT l d).length ≤ l.length := by
  cases d with
  | none => exact Nat.le_refl _
  | some n => exact List.length_filter_le _ _
theorem costT_le {lev : Nat → List Nd} (K : Int) (h : ∀ k, (lev k).length ≤ 30) : ∀ (k : Nat) (d : Option Nd), costT lev K k d ≤ 122 * (k + 1)
  | 0, d => by
    have h1 := cntT_le K (restT (lev 0) d)
    have h2 := restT_len (lev 0) d
    have h3 := h 0
    unfold costT
    omega
  | k + 1, d => by
    have h1 := cntT_le K (restT (lev (k + 1)) d)
    have h2 := restT_len (lev (k + 1)) d
    have h3 := h (k + 1)
    have h4 := costT_le K h k (nxtT K d (restT (lev (k + 1)) d))
    unfold costT
    omega
theorem restT_skip {n y : Nd} {r : List Nd} (h : y.key ≤ n.key) : restT (y :: r) (some n) = restT r (some n) := by
  show List.filter (fun m => decide (n.key < m.key)) (y :: r) = List.filter (fun m => decide (n.key < m.key)) r
  rw [List.filter_cons_of_neg (by simp; omega)]
theorem restT_take {d : Option Nd} {y : Nd} {r : List Nd} (h : ∀ n, d = some n → n.key < y.key) : restT (y :: r) d = y :: restT r d := by
  cases d with
  | none => rfl
  | some n =>
    show List.filter (fun m => decide (n.key < m.key)) (y :: r) = y :: List.filter (fun m => decide (n.key < m.key)) r
    rw [List.filter_cons_of_pos (by simpa using h n rfl)]
/-- Marks taken away. -/
def offT (l : List Nt) (j : Nat) : List Nt := l.set j { l.getD j default with marks := 0 }
theorem offT_map {α : Type} (f : Nt → α) (hf : ∀ n : Nt, f { n with marks := 0 } = f n) : ∀ (l : List Nt) (j : Nat), (offT l j).map f = l.map f
  | [], _ => rfl
  | n :: r, 0 => by show f _ :: _ = _; rw [List.getD_cons_zero, hf]; rfl
  | n :: r, j + 1 => by
    have ih := offT_map f hf r j
    unfold offT at ih ⊢
    rw [List.getD_cons_succ, List.set_cons_succ, List.map_cons, List.map_cons, ih]
theorem offT_length (l : List Nt) (j : Nat) : (offT l j).length = l.length := by simp [offT]
theorem offT_ok {h : Nat} : ∀ (l : List Nt) (j : Nat), (∀ n ∈ l, NtOk h n) → ∀ n ∈ offT l j, NtOk h n
  | [], _, hl => hl
  | a :: r, 0, hl => fun n hn => by
    rcases List.mem_cons.1 hn with e | e
    · have := hl a (List.mem_cons_self ..)
      rw [e]
      exact ⟨this.1, this.2.1, this.2.2.1, by show (0 : Int) ≤ 0 ∧ (0 : Int) ≤ 65535; omega⟩
    · exact hl n (List.mem_cons_of_mem _ e)
  | a :: r, j + 1, hl => fun n hn => by
    have hn' : n ∈ a :: offT r j := by
      unfold offT at hn ⊢
      rwa [List.getD_cons_succ, List.set_cons_succ] at hn
    rcases List.mem_cons.1 hn' with e | e
    · rw [e]; exact hl a (List.mem_cons_self ..)
    · exact offT_ok r j (fun m hm => hl m (List.mem_cons_of_mem _ hm)) n e
theorem SortT.off {h : Nat} {l : List Nt} (H : SortT h l) (j : Nat) : SortT h (offT l j) := by
  refine ⟨offT_ok l j H.ok, ?_, ?_⟩
  · rw [offT_map (·.s) (fun _ => rfl)]; exact H.nd
  · have h1 := H.up
    rw [← List.pairwise_map (f := fun n : Nt => n.key) (R := fun a b => a < b)] at h1 ⊢
    rw [offT_map (·.key) (fun _ => rfl)]
    exact h1
theorem offT_take : ∀ (l : List Nt) (j : Nat), j < l.length → (∀ n ∈ l.take j, n.marks = 0) → ∀ n ∈ (offT l j).take (j + 1), n.marks = 0
  | [], j, h, _ => absurd h (by simp)
  | a :: r, 0, _, _ => fun n hn => by
    simp [offT] at hn
    rw [hn]
  | a :: r, j + 1, h, ht => fun n hn => by
    have hn' : n ∈ a :: (offT r j).take (j + 1) := by
      unfold offT at hn ⊢
      rwa [List.getD_cons_succ, List.set_cons_succ, List.take_succ_cons] at hn
    rcases List.mem_cons.1 hn' with e | e
    · rw [e]; exact ht a (by simp)
    · exact offT_take r j (by simpa using h) (fun m hm => ht m (by rw [List.take_succ_cons]; exact List.mem_cons_of_mem _ hm)) n e
end Go.Proofs.YtnnjanaclgjneaaGreatDoor

/- Rows of the call's own, of structs of k cells each: appended to, read. General. -/
namespace Go.Proofs.YtnnjanaclgjneaaGreatDoor
open Go.RowKit Go.Maps
set_option maxRecDepth 100000

section
variable {α : Type} {enc : α → List Value} {k : Nat}
def flatK (enc : α → List Value) (l : List α) : List Value := l.flatMap enc
theorem flatK_length (hk : ∀ x, (enc x).length = k) (l : List α) : (flatK enc l).length = l.length * k := by
  induction l with
  | nil => simp [flatK]
  | cons x l ih =>
    have e : flatK enc (x :: l) = enc x ++ flatK enc l := by simp [flatK]
    rw [e, List.length_append, ih, hk, List.length_cons, Nat.add_mul]
    omega
theorem flatK_append (a b : List α) : flatK enc (a ++ b) = flatK enc a ++ flatK enc b := by simp [flatK]
theorem flatK_get [Inhabited α] (hk : ∀ x, (enc x).length = k) : ∀ (l : List α) (j c : Nat), j < l.length → c < k → (flatK enc l)[j * k + c]? = (enc (l.getD j default))[c]? := by
  intro l
  induction l with
  | nil => intro j c h; simp at h
  | cons x l ih =>
    intro j c hj hc
    have e : flatK enc (x :: l) = enc x ++ flatK enc l := by simp [flatK]
    cases j with
    | zero => rw [e, List.getElem?_append_left (by rw [hk]; omega)]; simp
    | succ j =>
      have e3 : (j + 1) * k = j * k + k := by rw [Nat.add_mul, Nat.one_mul]
      rw [e, List.getElem?_append_right (by rw [hk]; omega)]
      have := ih j c (by simpa using hj) hc
      have e2 : (j + 1) * k + c - (enc x).length = j * k + c := by rw [hk]; omega
      rw [e2, this]
      simp
theorem RowX.news [Inhabited α] (hk : ∀ x, (enc x).length = k) (hk0 : 0 < k) {w : World} {ad : Addr} {xs : List α} (h : RowX enc k w (some ad) xs) : ∀ j u, (flatK enc xs)[j]? = some u → w.cell? (ad.add j) = some u := by
  intro j u hu
  rcases h with rfl | ⟨b, off, he, hl, hc⟩
  · simp [flatK] at hu
  · cases he
    have hj : j < xs.length * k := by rw [← flatK_length hk]; exact (List.getElem?_eq_some_iff.1 hu).1
    have e : (⟨b, off, none⟩ : Addr).add j = ⟨b, off + j, none⟩ := by unfold Addr.add; split <;> simp_all
    have e2 : j / k * k + j % k = j := by rw [Nat.mul_comm]; exact Nat.div_add_mod j k
    have hlt : j / k < xs.length := (Nat.div_lt_iff_lt_mul hk0).2 hj
    have h1 := hc (j / k) hlt (j % k) u (by rw [← flatK_get hk xs (j / k) (j % k) hlt (Nat.mod_lt _ hk0), e2, hu])
    rw [e]
    rwa [Nat.add_assoc, e2] at h1
theorem Blk.rowK [Inhabited α] (hk : ∀ x, (enc x).length = k) {w : World} {g : Nat} {l : List α} (h : Blk 0 w g (flatK enc l)) : RowX enc k w (some ⟨g, 0, none⟩) l := by
  refine .inr ⟨g, 0, rfl, h.1, fun i hi j v e => ?_⟩
  have hj : j < k := by have := (List.getElem?_eq_some_iff.1 e).1; rw [hk] at this; exact this
  rw [Nat.zero_add, h.rule, flatK_get hk l i j hi hj]
  exact e
theorem owns_rowK [Inhabited α] (hk : ∀ x, (enc x).length = k) {w : World} {b : Nat} {e : TypeId} {A : Option Addr} {cap : Nat} {l : List α} (h : w.ownsRow b e k (.slice A l.length cap) l.length (flatK enc l)) : RowX enc k w A l := by
  rcases h.2 with ⟨_, h0⟩ | ⟨g, cap', cur, hv, _, hg, hn, hc, hcs, htk⟩
  · exact .inl (List.eq_nil_of_length_eq_zero h0)
  · simp only [Value.slice.injEq] at hv
    obtain ⟨rfl, -, rfl⟩ := hv
    refine .inr ⟨g, 0, rfl, (Array.getElem?_eq_some_iff.1 hg).1, fun i hi j v e => ?_⟩
    have hj : j < k := by have := (List.getElem?_eq_some_iff.1 e).1; rw [hk] at this; exact this
    have h1 := flatK_get hk l i j hi hj
    have hlt : i * k + j < l.length * k := by
      have : (i + 1) * k ≤ l.length * k := Nat.mul_le_mul_right k hi
      rw [Nat.add_mul] at this
      omega
    rw [e, ← htk, List.getElem?_take_of_lt hlt] at h1
    rw [Nat.zero_add]
    simp only [World.cell?, hg]
    simpa using h1
/-- A row of its own, appended to. -/
def rowKI (enc : α → List Value) (k : Nat) (v : Value) (e : TypeId) (l : List α) : Item := rowI v e k l.length (flatK enc l)
variable {w0 w w' : World} {L : List Item}
theorem Env.rowK (h : Env w0 L w) (i : Nat) {v : Value} {e : TypeId} {l : List α} (hi : L[i]? = some (rowKI enc k v e l)) : w.ownsRow 0 e k v l.length (flatK enc l) := h.get i hi
theorem Env.cellsK [Inhabited α] (hk : ∀ x, (enc x).length = k) (h : Env w0 L w) (i : Nat) {A : Option Addr} {n cap : Nat} {e : TypeId} {l : List α} (hn : n = l.length) (hi : L[i]? = some (rowKI enc k (.slice A n cap) e l)) : RowX enc k w A l := by subst hn; exact owns_rowK hk (h.rowK i hi)
theorem Env.addEmptyK (h : Env w0 L w) (n : Nat) (hn : w.heap.size = n) (e : TypeId) : Env w0 (rowKI enc k (.slice (some ⟨n, 0, none⟩) 0 0) e [] :: L) (w.alloc (.cells #[] e)) := by
  subst hn
  have ho : (w.alloc (.cells #[] e)).ownsRow w.heap.size e k (.slice (some ⟨w.heap.size, 0, none⟩) 0 0) 0 (flatK enc []) := ⟨by simp [flatK], .inr ⟨w.heap.size, 0, #[], rfl, Nat.le_refl _, heap_alloc_new w _, Nat.le_refl _, by simp, by simp, by simp [flatK]⟩⟩
  exact h.add (rowKI enc k (.slice (some ⟨w.heap.size, 0, none⟩) 0 0) e []) ((Below.refl _ _).alloc (Nat.le_refl _) _) (ownsRow_base ho (Nat.zero_le _)) fun k hk => ho.lt k hk
/-- A row appended to a row of its own. -/
theorem Env.appendK [Inhabited α] (hk : ∀ x, (enc x).length = k) (hk0 : 0 < k) (hone : ∀ x, ∀ u ∈ enc x, u.oneCell' = true) {P : Program} (h : Env w0 L w) (i : Nat) {v : Value} {e : TypeId} {l xs : List α} (hi : L[i]? = some (rowKI enc k v e l)) (t ty : TypeId) (ht : P.underlying t = some (.slice e))
    {zz : Value} {bytes : Nat} (hzz0 : zz.cells.size = k) (hinfo : (P.info? e).map (fun i => (i.zero, i.size, i.bytes)) = some (some zz, k, bytes))
    {A : Option Addr} (c : Nat) (hx : RowX enc k w A xs) (hA : A = none → xs = []) (hz : l.length + xs.length ≤ maxLen) (hby : (l.length + xs.length) * bytes ≤ 140737488355328) :
    ∃ A' c' w', (Builtin.append_ #[t, t] ty #[v, .slice A xs.length c]).run P w = .ok (.slice A' (l.length + xs.length) c') w' ∧ Env w0 (L.set i (rowKI enc k (.slice A' (l.length + xs.length) c') e (l ++ xs))) w' := by
  obtain ⟨i0, hi0, hzz⟩ := Option.map_eq_some_iff.1 hinfo
  simp only [Prod.mk.injEq] at hzz
  obtain ⟨hz0, hs, hb⟩ := hzz
  have hown := h.rowK i hi
  obtain ⟨v', w', hrun, ho, hg, hv⟩ := run_append_rows (P := P) t ty 0 e i0 zz k bytes ht hi0 hz0 hs hb hzz0 hk0 w v l.length (flatK enc l) hown A xs.length c (flatK enc xs) (flatK_length hk xs)
    (by
      cases A with
      | none =>
        left
        have := hA rfl
        subst this
        exact ⟨rfl, rfl⟩
      | some ad => exact .inr ⟨ad, rfl, RowX.news hk hk0 hx⟩) (fun u hu => by
        obtain ⟨x, _, hx2⟩ := List.mem_flatMap.1 hu
        exact hone x u hx2) hz hby (Nat.zero_le _)
  obtain ⟨A', c', rfl⟩ := ownsRow_slice ho
  have hst : Step (fun k => v.ownBlock = some k) (fun k => (Value.slice A' (l.length + xs.length) c').ownBlock = some k) w w' := ⟨(Turn.refl _ w).grown hg fun k _ e => e, fun k hk => by
    rcases hv with e | e
    · exact .inl (by rw [← e]; exact hk)
    · right
      rw [e] at hk
      cases hk
      exact Nat.le_refl _⟩
  refine ⟨A', c', w', hrun, h.step i (rowKI enc k _ e (l ++ xs)) hi hst ?_ ?_⟩
  · show w'.ownsRow 0 e k _ (l ++ xs).length (flatK enc (l ++ xs))
    rw [List.length_append, flatK_append]
    exact ho
  · exact ownsRow_lt ho
end
end Go.Proofs.YtnnjanaclgjneaaGreatDoor

/- A skip list's row of slots: one more, at its place by its key; one of a row written, read. -/
namespace Go.Proofs.YtnnjanaclgjneaaGreatDoor
open Go.RowKit Go.Maps
set_option maxRecDepth 100000

theorem encT_len (x : Nt) : (encT x).length = 4 := rfl
theorem encT_one (x : Nt) : ∀ u ∈ encT x, u.oneCell' = true := by intro u hu; simp [encT] at hu; rcases hu with rfl | rfl | rfl | rfl <;> rfl
theorem at4T {w : World} {b o : Nat} {n : Nt} (h : CellsAt w b o (encT n)) : w.cell? ⟨b, o, none⟩ = some (.int .i64 n.s) ∧ w.cell? ⟨b, o + 1, none⟩ = some (.int .u64 n.key) ∧ w.cell? ⟨b, o + 2, none⟩ = some (.int .i64 n.top) ∧ w.cell? ⟨b, o + 3, none⟩ = some (.int .i64 n.marks) :=
  ⟨h 0 _ rfl, h 1 _ rfl, h 2 _ rfl, h 3 _ rfl⟩
theorem flatT_set : ∀ (l : List Nt) (j : Nat) (a : Nt), j < l.length → flatK encT (l.set j a) = ((((flatK encT l).set (j * 4) (.int .i64 a.s)).set (j * 4 + 1) (.int .u64 a.key)).set (j * 4 + 2) (.int .i64 a.top)).set (j * 4 + 3) (.int .i64 a.marks)
  | [], j, a, h => absurd h (by simp)
  | n :: r, 0, a, _ => by simp [flatK, encT]
  | n :: r, j + 1, a, h => by
    have ih := flatT_set r j a (by simpa using h)
    have e : ∀ l, flatK encT (n :: l) = .int .i64 n.s :: .int .u64 n.key :: .int .i64 n.top :: .int .i64 n.marks :: flatK encT l := fun l => by simp [flatK, encT]
    rw [List.set_cons_succ, e, e, ih]
    simp only [show (j + 1) * 4 = j * 4 + 4 by omega, show j * 4 + 4 + 1 = j * 4 + 1 + 4 by omega, show j * 4 + 4 + 2 = j * 4 + 2 + 4 by omega, show j * 4 + 4 + 3 = j * 4 + 3 + 4 by omega]
    rfl
theorem flatT_marks : ∀ (l : List Nt) (j : Nat) (v : Int), j < l.length → flatK encT (l.set j { l.getD j default with marks := v }) = (flatK encT l).set (j * 4 + 3) (.int .i64 v)
  | [], j, v, h => absurd h (by simp)
  | n :: r, 0, v, _ => by simp [flatK, encT]
  | n :: r, j + 1, v, h => by
    have ih := flatT_marks r j v (by simpa using h)
    have e : ∀ l, flatK encT (n :: l) = .int .i64 n.s :: .int .u64 n.key :: .int .i64 n.top :: .int .i64 n.marks :: flatK encT l := fun l => by simp [flatK, encT]
    rw [List.set_cons_succ, e, e, List.getD_cons_succ, ih]
    simp only [show (j + 1) * 4 + 3 = j * 4 + 3 + 4 by omega]
    rfl
/-- Two that stand side by side change places. -/
def swpT (l : List Nt) (t : Nat) : List Nt := (l.set (t + 1) (l.getD t default)).set t (l.getD (t + 1) default)
theorem swpT_length (l : List Nt) (t : Nat) : (swpT l t).length = l.length := by simp [swpT]
theorem swpT_app (x y : Nt) (B : List Nt) : ∀ A : List Nt, swpT (A ++ y :: x :: B) A.length = A ++ x :: y :: B
  | [] => by simp [swpT]
  | a :: A => by
    unfold swpT
    simp
/-- A row by rising keys in which one is on its way to its place. -/
def InsT (x : Nt) (t : Nat) (l : List Nt) : Prop := ∃ A B, l = A ++ x :: B ∧ A.length = t ∧ (A ++ B).Pairwise (fun a b => a.key < b.key) ∧ (∀ b ∈ B, x.key < b.key) ∧ (∀ a ∈ A ++ B, a.key ≠ x.key)
theorem InsT.at {x : Nt} {t : Nat} {l : List Nt} (h : InsT x t l) : l.getD t default = x := by
  obtain ⟨A, B, rfl, rfl, -, -, -⟩ := h
  simp
theorem InsT.start {x : Nt} {l : List Nt} (h : l.Pairwise (fun a b => a.key < b.key)) (hn : ∀ a ∈ l, a.key ≠ x.key) : InsT x l.length (l ++ [x]) := ⟨l, [], rfl, rfl, by simpa using h, by simp, by simpa using hn⟩
theorem InsT.cut {x : Nt} {t : Nat} {l : List Nt} (h : InsT x (t + 1) l) : ∃ A y B, l = A ++ y :: x :: B ∧ A.length = t ∧ l.getD t default = y ∧ (A ++ y :: B).Pairwise (fun a b => a.key < b.key) ∧ (∀ b ∈ B, x.key < b.key) ∧ (∀ a ∈ A ++ y :: B, a.key ≠ x.key) := by
  obtain ⟨A, B, rfl, hA, hp, hB, hn⟩ := h
  obtain ⟨A', y, rfl⟩ : ∃ A' y, A = A' ++ [y] := by
    rcases List.eq_nil_or_concat A with e | ⟨A', y, e⟩
    · rw [e] at hA; simp at hA
    · exact ⟨A', y, by rw [e, List.concat_eq_append]⟩
  have hA' : A'.length = t := by simpa using hA
  refine ⟨A', y, B, by simp, hA', ?_, by simpa using hp, hB, by simpa using hn⟩
  rw [← hA']
  simp
theorem InsT.swap {x : Nt} {t : Nat} {l : List Nt} (h : InsT x (t + 1) l) (hk : x.key < (l.getD t default).key) : InsT x t (swpT l t) := by
  obtain ⟨A, y, B, rfl, rfl, hy, hp, hB, hn⟩ := h.cut
  rw [hy] at hk
  rw [swpT_app]
  refine ⟨A, y :: B, rfl, rfl, hp, fun b hb => ?_, hn⟩
  rcases List.mem_cons.1 hb with rfl | hb
  · exact hk
  · exact hB b hb
theorem InsT.done {x : Nt} {t : Nat} {l : List Nt} (h : InsT x (t + 1) l) (hk : ¬ x.key < (l.getD t default).key) : l.Pairwise (fun a b => a.key < b.key) := by
  obtain ⟨A, y, B, rfl, rfl, hy, hp, hB, hn⟩ := h.cut
  rw [hy] at hk
  have hny := hn y (by simp)
  have hyx : y.key < x.key := by omega
  rw [List.pairwise_append] at hp ⊢
  obtain ⟨p1, p2, p3⟩ := hp
  obtain ⟨p4, p5⟩ := List.pairwise_cons.1 p2
  refine ⟨p1, List.pairwise_cons.2 ⟨fun b hb => ?_, List.pairwise_cons.2 ⟨hB, p5⟩⟩, fun a ha b hb => ?_⟩
  · rcases List.mem_cons.1 hb with rfl | hb
    · exact hyx
    · exact p4 b hb
  · rcases List.mem_cons.1 hb with rfl | hb
    · exact p3 a ha b (List.mem_cons_self ..)
    · rcases List.mem_cons.1 hb with rfl | hb
      · exact Int.lt_trans (p3 a ha y (List.mem_cons_self ..)) hyx
      · exact p3 a ha b (List.mem_cons_of_mem _ hb)
theorem InsT.done0 {x : Nt} {l : List Nt} (h : InsT x 0 l) : l.Pairwise (fun a b => a.key < b.key) := by
  obtain ⟨A, B, rfl, hA, hp, hB, -⟩ := h
  have : A = [] := List.length_eq_zero_iff.1 hA
  subst this
  exact List.pairwise_cons.2 ⟨hB, by simpa using hp⟩
theorem swpT_perm : ∀ (l : List Nt) (t : Nat), t + 1 < l.length → (swpT l t).Perm l
  | [], _, h => absurd h (by simp)
  | [_], _, h => absurd h (by simp)
  | a :: b :: r, 0, _ => by simpa [swpT] using List.Perm.swap a b r
  | a :: b :: r, t + 1, h => by
    have := swpT_perm (b :: r) t (by simpa using h)
    exact this.cons a
section
variable {w0 w : World} {L : List Item}
/-- One of a row is written. -/
theorem Env.setT (h : Env w0 L w) (i : Nat) {g cap n : Nat} {e : TypeId} {l : List Nt} (hn : n = l.length) (hi : L[i]? = some (rowKI encT 4 (.slice (some ⟨g, 0, none⟩) n cap) e l)) {j : Nat} (hj : j < l.length) (a : Nt) :
    Env w0 (L.set i (rowKI encT 4 (.slice (some ⟨g, 0, none⟩) n cap) e (l.set j a))) ((((w.setCell ⟨g, j * 4, none⟩ (.int .i64 a.s)).setCell ⟨g, j * 4 + 1, none⟩ (.int .u64 a.key)).setCell ⟨g, j * 4 + 2, none⟩ (.int .i64 a.top)).setCell ⟨g, j * 4 + 3, none⟩ (.int .i64 a.marks)) := by
  subst hn
  have ho := h.rowK i hi
  refine h.step i (rowKI encT 4 (.slice (some ⟨g, 0, none⟩) l.length cap) e (l.set j a)) hi ⟨((((Turn.refl (fun k => (Value.slice (some ⟨g, 0, none⟩) l.length cap).ownBlock = some k) w).setCell (p := ⟨g, j * 4, none⟩) (fun _ => rfl) _).setCell (p := ⟨g, j * 4 + 1, none⟩) (fun _ => rfl) _).setCell (p := ⟨g, j * 4 + 2, none⟩) (fun _ => rfl) _).setCell (p := ⟨g, j * 4 + 3, none⟩) (fun _ => rfl) _, fun k hk => .inl hk⟩ ?_ fun k hk => by
    have := h.lt i hi k hk
    simpa using this
  show World.ownsRow _ 0 e 4 _ (l.set j a).length (flatK encT (l.set j a))
  rw [flatT_set l j a hj, List.length_set]
  exact ((((ho.stored _ _).1.stored _ _).1.stored _ _).1.stored _ _).1
theorem Env.marksT (h : Env w0 L w) (i : Nat) {g cap n : Nat} {e : TypeId} {l : List Nt} (hn : n = l.length) (hi : L[i]? = some (rowKI encT 4 (.slice (some ⟨g, 0, none⟩) n cap) e l)) {j : Nat} (hj : j < l.length) (v : Int) :
    Env w0 (L.set i (rowKI encT 4 (.slice (some ⟨g, 0, none⟩) n cap) e (l.set j { l.getD j default with marks := v }))) (w.setCell ⟨g, j * 4 + 3, none⟩ (.int .i64 v)) := by
  subst hn
  have ho := h.rowK i hi
  refine h.step i (rowKI encT 4 (.slice (some ⟨g, 0, none⟩) l.length cap) e (l.set j { l.getD j default with marks := v })) hi ⟨(Turn.refl (fun k => (Value.slice (some ⟨g, 0, none⟩) l.length cap).ownBlock = some k) w).setCell (p := ⟨g, j * 4 + 3, none⟩) (fun _ => rfl) _, fun k hk => .inl hk⟩ ?_ fun k hk => by
    have := h.lt i hi k hk
    simpa using this
  show World.ownsRow _ 0 e 4 _ (l.set j { l.getD j default with marks := v }).length (flatK encT (l.set j { l.getD j default with marks := v }))
  rw [flatT_marks l j v hj, List.length_set]
  exact (ho.stored _ _).1
/-- Where a row lies that holds something. -/
theorem Env.atT (h : Env w0 L w) (i : Nat) {A : Option Addr} {n cap : Nat} {e : TypeId} {l : List Nt} (hn : n = l.length) (hi : L[i]? = some (rowKI encT 4 (.slice A n cap) e l)) (h0 : 0 < n) : ∃ g, A = some ⟨g, 0, none⟩ := by
  subst hn
  rcases (h.rowK i hi).2 with ⟨-, h9⟩ | ⟨g, _, _, hv, _⟩
  · omega
  · simp only [Value.slice.injEq] at hv
    exact ⟨g, hv.1⟩
theorem Env.cellT (h : Env w0 L w) (i : Nat) {g n cap : Nat} {e : TypeId} {l : List Nt} (hn : n = l.length) (hi : L[i]? = some (rowKI encT 4 (.slice (some ⟨g, 0, none⟩) n cap) e l)) {j : Nat} (hj : j < l.length) {x : Nt} (hx : l.getD j default = x) :
    w.cell? ⟨g, j * 4, none⟩ = some (.int .i64 x.s) ∧ w.cell? ⟨g, j * 4 + 1, none⟩ = some (.int .u64 x.key) ∧ w.cell? ⟨g, j * 4 + 2, none⟩ = some (.int .i64 x.top) ∧ w.cell? ⟨g, j * 4 + 3, none⟩ = some (.int .i64 x.marks) := by
  rcases h.cellsK encT_len i hn hi with h0 | ⟨g', off', h9, -, hc⟩
  · rw [h0] at hj; exact absurd hj (by simp)
  · cases h9
    have := at4T (hc j hj)
    rw [hx, Nat.zero_add] at this
    exact this
end
end Go.Proofs.YtnnjanaclgjneaaGreatDoor

/- The order of places; the library's sort at it. -/
namespace Go.Proofs.YtnnjanaclgjneaaGreatDoor
open Go.RowKit Go.Maps Go.Shelf Go.Sort
set_option maxRecDepth 100000

/-- How two places stand. -/
def orI (a b c : Int) : Int := if a ≠ 0 then a else if b ≠ 0 then b else c
def cmpP (x y : Plc) : Int := orI (Lib.compareInt x.1 y.1) (Lib.compareInt x.2.1 y.2.1) (Lib.compareInt x.2.2 y.2.2)
theorem cmp_neg (a b : Int) : Lib.compareInt a b < 0 ↔ a < b := by unfold Lib.compareInt; split <;> (try split) <;> omega
theorem cmp_zero (a b : Int) : Lib.compareInt a b = 0 ↔ a = b := by unfold Lib.compareInt; split <;> (try split) <;> omega
theorem ltP (x y : Plc) : ltOf cmpP x y = true ↔ x.1 < y.1 ∨ (x.1 = y.1 ∧ (x.2.1 < y.2.1 ∨ (x.2.1 = y.2.1 ∧ x.2.2 < y.2.2))) := by
  have h1 := cmp_neg x.1 y.1
  have h2 := cmp_neg x.2.1 y.2.1
  have h3 := cmp_neg x.2.2 y.2.2
  have z1 := cmp_zero x.1 y.1
  have z2 := cmp_zero x.2.1 y.2.1
  have e : ltOf cmpP x y = true ↔ cmpP x y < 0 := by simp [ltOf]
  rw [e]
  unfold cmpP orI
  split
  · rename_i h; rw [h1]; rw [ne_eq, z1] at h; omega
  · rename_i h
    have h := z1.1 (by simpa using h)
    split
    · rename_i k; rw [h2]; rw [ne_eq, z2] at k; omega
    · rename_i k
      have k := z2.1 (by simpa using k)
      rw [h3]; omega
theorem ltP_false (x y : Plc) : ltOf cmpP x y = false ↔ ¬ (x.1 < y.1 ∨ (x.1 = y.1 ∧ (x.2.1 < y.2.1 ∨ (x.2.1 = y.2.1 ∧ x.2.2 < y.2.2)))) := by rw [← ltP, Bool.not_eq_true]
theorem swoP : SWO (ltOf cmpP) where
  irrefl x := by rw [ltP_false]; omega
  trans x y z h1 h2 := by rw [ltP] at *; omega
  ntrans x y z h1 h2 := by rw [ltP_false] at *; omega
theorem totP (x y : Plc) (h1 : ltOf cmpP x y = false) (h2 : ltOf cmpP y x = false) : x = y := by
  rw [ltP_false] at *
  obtain ⟨a, b, c⟩ := x
  obtain ⟨a', b', c'⟩ := y
  simp only [Prod.mk.injEq]
  simp only at h1 h2
  omega

/-- A place's cells. -/
def encP (x : Plc) : List Value := [.int .i64 x.1, .int .i64 x.2.1, .int .i64 x.2.2]
end Go.Proofs.YtnnjanaclgjneaaGreatDoor

/- The keys of a map of words, collected: each once, in whatever order; then sorted: Places. -/
namespace Go.Proofs.YtnnjanaclgjneaaGreatDoor
open Go.RowKit Go.Maps Go.Shelf Go.Sort
set_option maxRecDepth 100000

attribute [local go_sem] Oper.semAt_some

def flatP (l : List Plc) : List Value := l.flatMap encP
theorem flatP_snoc (l : List Plc) (x : Plc) : flatP (l ++ [x]) = flatP l ++ encP x := by simp [flatP]
theorem flatP_length (l : List Plc) : (flatP l).length = l.length * 3 := by
  induction l with
  | nil => rfl
  | cons x l ih => simp [flatP, encP] at *; omega
theorem infoPlace : (Tryz.prog.info? 105).map (fun i => (i.zero, i.size, i.bytes)) = some (some (.agg #[.int .i64 0, .int .i64 0, .int .i64 0]), 3, 24) := by kernel_rfl
end Go.Proofs.YtnnjanaclgjneaaGreatDoor

/- Places: those whose words aren't 0, in their order. -/
namespace Go.Proofs.YtnnjanaclgjneaaGreatDoor
open Go.RowKit Go.Maps Go.Shelf Go.Sort
set_option maxRecDepth 100000

/-! ### rows of places -/
def z3 : Plc := (0, 0, 0)
/-- v is a slice of just those places. -/
def RowP (w : World) (v : Value) (l : List Plc) : Prop :=
  (l = [] ∧ v = .slice none 0 0) ∨ ∃ g cap, v = .slice (some ⟨g, 0, none⟩) l.length cap ∧ g < w.heap.size ∧ ∀ j, j < l.length →
    w.cell? ⟨g, j * 3, none⟩ = some (.int .i64 (l.getD j z3).1) ∧ w.cell? ⟨g, j * 3 + 1, none⟩ = some (.int .i64 (l.getD j z3).2.1) ∧ w.cell? ⟨g, j * 3 + 2, none⟩ = some (.int .i64 (l.getD j z3).2.2)
theorem RowP.over {w w' : World} {v : Value} {l : List Plc} {T : Nat → Prop} (h : RowP w v l) (ht : Turn T w w') (hT : ∀ g len cap, v = .slice (some ⟨g, 0, none⟩) len cap → ¬ T g) : RowP w' v l := by
  rcases h with h | ⟨g, cap, hv, hg, hc⟩
  · exact .inl h
  · have hb := ht.block g hg (hT g _ cap hv)
    exact .inr ⟨g, cap, hv, Nat.lt_of_lt_of_le hg ht.size, fun j hj => by
      obtain ⟨h1, h2, h3⟩ := hc j hj
      refine ⟨?_, ?_, ?_⟩
      · rw [World.cell?_of_block (w := w) hb]; exact h1
      · rw [World.cell?_of_block (w := w) hb]; exact h2
      · rw [World.cell?_of_block (w := w) hb]; exact h3⟩

theorem flatP_get (l : List Plc) : ∀ (j c : Nat), j < l.length → c < 3 → (flatP l)[j * 3 + c]? = (encP (l.getD j z3))[c]? := by
  induction l with
  | nil => intro j c h; simp at h
  | cons x l ih =>
    intro j c hj hc
    have e : flatP (x :: l) = encP x ++ flatP l := by simp [flatP]
    cases j with
    | zero => rw [e, List.getElem?_append_left (by simp [encP]; omega)]; simp
    | succ j =>
      rw [e, List.getElem?_append_right (by simp [encP]; omega)]
      have := ih j c (by simpa using hj) hc
      have e2 : (j + 1) * 3 + c - (encP x).length = j * 3 + c := by simp [encP]; omega
      rw [e2, this]
      simp

def Rising (l : List Plc) : Prop := l.Pairwise fun x y => ltOf cmpP x y = true
theorem rising_eq : ∀ {l m : List Plc}, Rising l → Rising m → (∀ x, x ∈ l ↔ x ∈ m) → l = m
  | [], [], _, _, _ => rfl
  | [], y :: m, _, _, h => by have := (h y).2 (by simp); simp at this
  | x :: l, [], _, _, h => by have := (h x).1 (by simp); simp at this
  | x :: l, y :: m, h1, h2, h => by
    obtain ⟨a1, a2⟩ := List.pairwise_cons.1 h1
    obtain ⟨b1, b2⟩ := List.pairwise_cons.1 h2
    have no : ∀ a b : Plc, ltOf cmpP a b = true → ltOf cmpP b a = true → False := fun a b p q => by
      have := swoP.trans _ _ _ p q
      rw [swoP.irrefl] at this
      cases this
    have hxy : x = y := by
      rcases List.mem_cons.1 ((h x).1 (by simp)) with e | hx
      · exact e
      · rcases List.mem_cons.1 ((h y).2 (by simp)) with e | hy
        · exact e.symm
        · exact (no x y (a1 y hy) (b1 x hx)).elim
    subst hxy
    rw [rising_eq a2 b2 fun z => ⟨fun hz => by
      rcases List.mem_cons.1 ((h z).1 (by simp [hz])) with e | h'
      · subst e; exact (no _ _ (a1 _ hz) (a1 _ hz)).elim
      · exact h', fun hz => by
      rcases List.mem_cons.1 ((h z).2 (by simp [hz])) with e | h'
      · subst e; exact (no _ _ (b1 _ hz) (b1 _ hz)).elim
      · exact h'⟩]
/-- l are the places whose words aren't 0, rising. -/
def PlacesOf (f : Plc → Int) (l : List Plc) : Prop := Rising l ∧ ∀ x, x ∈ l ↔ f x ≠ 0
theorem PlacesOf.eq {f : Plc → Int} {l m : List Plc} (h : PlacesOf f l) (k : PlacesOf f m) : l = m := rising_eq h.1 k.1 fun x => (h.2 x).trans (k.2 x).symm
/-- The one place whose word isn't 0. -/
theorem places_one {x : Plc} {v : Int} (hv : v ≠ 0) {l : List Plc} (h : PlacesOf (upd (fun _ => 0) x v) l) : l.length = 1 := by
  have h1 : PlacesOf (upd (fun _ => 0) x v) [x] := ⟨List.pairwise_singleton _ _, fun y => by unfold upd; split <;> simp_all⟩
  rw [h.eq h1]; rfl

theorem RowP.len {w : World} {v : Value} {l : List Plc} (h : RowP w v l) : ∃ a cap, v = .slice a l.length cap := by
  rcases h with ⟨rfl, rfl⟩ | ⟨g, cap, rfl, _⟩
  · exact ⟨_, _, rfl⟩
  · exact ⟨_, _, rfl⟩
theorem RowP.below {w w' : World} {v : Value} {l : List Plc} (h : RowP w v l) (hb : Below w.heap.size w w') : RowP w' v l := h.over (Turn.of_below hb : Turn (fun _ => False) w w') fun _ _ _ _ e => e
end Go.Proofs.YtnnjanaclgjneaaGreatDoor

/- The reference's words in a row: Swap, Less. -/
namespace Go.Proofs.YtnnjanaclgjneaaGreatDoor
open Go.RowKit Go.Maps Go.Sort
set_option maxRecDepth 100000

set_option maxHeartbeats 1600000 in
theorem less_any (x y z a b d : Int) (w : World) :
    Calls Tryz.prog 143 #[.agg #[.int .i64 x, .int .i64 y, .int .i64 z], .agg #[.int .i64 a, .int .i64 b, .int .i64 d]] w fun e w' => e = .returned (.bool (ltOf cmpP (x, y, z) (a, b, d))) ∧ Below w.heap.size w w' := by
  have hE := ((Fr.start w).push w.heap.size rfl [.int .i64 x, .int .i64 y, .int .i64 z] 105).push (w.heap.size + 1) (by simp) [.int .i64 a, .int .i64 b, .int .i64 d] 105
  have r := hE.rule 0 rfl
  have r1 := hE.rule 1 rfl
  have hL : ltOf cmpP (x, y, z) (a, b, d) = if x ≠ a then decide (x < a) else if y ≠ b then decide (y < b) else decide (z < d) := by
    have h := ltP (x, y, z) (a, b, d)
    rw [Bool.eq_iff_iff, h]
    split
    · simp; omega
    · split
      · simp; omega
      · simp; omega
  rw [hL]
  go_enter Tryz.func143, Tryz.ntmps143
  by_cases h1 : x = a
  · subst h1
    by_cases h2 : y = b
    · subst h2
      go_wp2_with fail
      go_ret
      exact ⟨by simp, hE.below⟩
    · go_wp2_with fail
      go_ret
      exact ⟨by simp [h2], hE.below⟩
  · go_wp2_with fail
    go_ret
    exact ⟨by simp [h1], hE.below⟩



end Go.Proofs.YtnnjanaclgjneaaGreatDoor

/- The reference's places, in their order. -/
namespace Go.Proofs.YtnnjanaclgjneaaGreatDoor
open Go.RowKit Go.Maps Go.Sort
set_option maxRecDepth 100000

theorem exch {α : Type} (y0 y1 y2 x0 x1 x2 : α) (D : List α) : ∀ P : List α, ((((((P ++ y0 :: y1 :: y2 :: x0 :: x1 :: x2 :: D).set (P.length + 3) y0).set (P.length + 4) y1).set (P.length + 5) y2).set P.length x0).set (P.length + 1) x1).set (P.length + 2) x2 = P ++ x0 :: x1 :: x2 :: y0 :: y1 :: y2 :: D
  | [] => rfl
  | p :: P => by
    have ih := exch y0 y1 y2 x0 x1 x2 D P
    simp only [List.cons_append, List.length_cons, show P.length + 1 + 3 = P.length + 3 + 1 by omega, show P.length + 1 + 4 = P.length + 4 + 1 by omega, show P.length + 1 + 5 = P.length + 5 + 1 by omega, show P.length + 1 + 2 = P.length + 2 + 1 by omega, List.set_cons_succ]
    rw [ih]
def insAt (m : List Plc) (j : Nat) (x : Plc) : List Plc := m.take j ++ x :: m.drop j
theorem flatP_append (l m : List Plc) : flatP (l ++ m) = flatP l ++ flatP m := by simp [flatP]
theorem insAt_exch (m : List Plc) (j : Nat) (hj : j < m.length) (x : Plc) : ((((((flatP (insAt m (j + 1) x)).set (j * 3 + 3) (.int .i64 (m.getD j z3).1)).set (j * 3 + 4) (.int .i64 (m.getD j z3).2.1)).set (j * 3 + 5) (.int .i64 (m.getD j z3).2.2)).set (j * 3) (.int .i64 x.1)).set (j * 3 + 1) (.int .i64 x.2.1)).set (j * 3 + 2) (.int .i64 x.2.2) = flatP (insAt m j x) := by
  have hlen : (flatP (m.take j)).length = j * 3 := by rw [flatP_length]; simp; omega
  have e1 : flatP (insAt m (j + 1) x) = flatP (m.take j) ++ .int .i64 (m.getD j z3).1 :: .int .i64 (m.getD j z3).2.1 :: .int .i64 (m.getD j z3).2.2 :: .int .i64 x.1 :: .int .i64 x.2.1 :: .int .i64 x.2.2 :: flatP (m.drop (j + 1)) := by
    unfold insAt
    rw [flatP_append, List.take_succ_eq_append_getElem hj, flatP_append]
    simp [flatP, encP, hj]
  have e2 : flatP (insAt m j x) = flatP (m.take j) ++ .int .i64 x.1 :: .int .i64 x.2.1 :: .int .i64 x.2.2 :: .int .i64 (m.getD j z3).1 :: .int .i64 (m.getD j z3).2.1 :: .int .i64 (m.getD j z3).2.2 :: flatP (m.drop (j + 1)) := by
    unfold insAt
    have h0 : m.drop j = m[j] :: m.drop (j + 1) := List.drop_eq_getElem_cons hj
    have h1 : m.getD j z3 = m[j] := by simp [hj]
    rw [flatP_append, h0, h1]
    simp [flatP, encP, -List.getElem_cons_drop]
  rw [e1, e2, ← hlen]
  exact exch _ _ _ _ _ _ _ _
theorem insAt_get_self (m : List Plc) (j : Nat) (hj : j ≤ m.length) (x : Plc) : (insAt m j x).getD j z3 = x := by
  unfold insAt
  rw [List.getD_eq_getElem?_getD, List.getElem?_append_right (by simp; omega)]
  simp [Nat.min_eq_left hj]
theorem insAt_get_prev (m : List Plc) (j : Nat) (hj : j < m.length) (x : Plc) : (insAt m (j + 1) x).getD j z3 = m.getD j z3 := by
  unfold insAt
  rw [List.getD_eq_getElem?_getD, List.getElem?_append_left (by simp; omega)]
  simp [List.getElem?_take]
theorem insAt_length (m : List Plc) (j : Nat) (hj : j ≤ m.length) (x : Plc) : (insAt m j x).length = m.length + 1 := by unfold insAt; simp; omega
theorem rising_insAt {m : List Plc} {j : Nat} {x : Plc} (hm : Rising m) (hj : j ≤ m.length) (hx : x ∉ m) (hd : ∀ y ∈ m.drop j, ltOf cmpP x y = true) (hs : j = 0 ∨ ltOf cmpP x (m.getD (j - 1) z3) = false) : Rising (insAt m j x) := by
  have h1 : Rising (m.take j) := List.Pairwise.sublist (List.take_sublist _ _) hm
  have h2 : Rising (m.drop j) := List.Pairwise.sublist (List.drop_sublist _ _) hm
  have h3 : ∀ y ∈ m.take j, ltOf cmpP y x = true := by
    intro y hy
    obtain ⟨i, hi, rfl⟩ := List.getElem_of_mem hy
    have hi' : i < j := by simp at hi; omega
    rcases hs with rfl | hs
    · omega
    · have hjm : j - 1 < m.length := by omega
      have e : m.getD (j - 1) z3 = m[j - 1] := by simp [hjm]
      rw [e] at hs
      have hlt : ltOf cmpP m[j - 1] x = true := by
        rcases h : ltOf cmpP m[j - 1] x with _ | _
        · exact absurd (totP _ _ hs h) (fun e => hx (e ▸ List.getElem_mem hjm))
        · rfl
      rw [List.getElem_take]
      rcases Nat.lt_or_ge i (j - 1) with hlt2 | hge
      · exact swoP.trans _ _ _ (List.pairwise_iff_getElem.1 hm i (j - 1) (by omega) hjm hlt2) hlt
      · have : i = j - 1 := by omega
        subst this
        exact hlt
  unfold insAt Rising
  refine List.pairwise_append.2 ⟨h1, List.pairwise_cons.2 ⟨hd, h2⟩, fun a ha b hb => ?_⟩
  rcases List.mem_cons.1 hb with rfl | hb
  · exact h3 a ha
  · exact swoP.trans _ _ _ (h3 a ha) (hd b hb)
theorem mem_insAt {m : List Plc} {j : Nat} {x y : Plc} : y ∈ insAt m j x ↔ y = x ∨ y ∈ m := by
  unfold insAt
  conv => rhs; rw [← List.take_append_drop j m]
  simp only [List.mem_append, List.mem_cons]
  constructor
  · rintro (h | h | h)
    · exact .inr (.inl h)
    · exact .inl h
    · exact .inr (.inr h)
  · rintro (h | h | h)
    · exact .inr (.inl h)
    · exact .inl h
    · exact .inr (.inr h)
theorem getL_ne {l : List OneR} (h : (l.map (·.1)).Nodup) (x : Plc) : getL l x ≠ 0 ↔ ∃ v, (x, v) ∈ l ∧ v ≠ 0 := by
  induction l with
  | nil => simp [getL]
  | cons e l ih =>
    rw [List.map_cons, List.nodup_cons] at h
    have ih := ih h.2
    by_cases he : e.1 = x
    · subst he
      simp only [getL, if_true]
      constructor
      · intro hv; exact ⟨e.2, by simp, hv⟩
      · rintro ⟨v, hv, hne⟩
        rcases List.mem_cons.1 hv with e' | e'
        · rw [← e']; exact hne
        · exact absurd (List.mem_map.2 ⟨_, e', rfl⟩) h.1
    · simp only [getL, if_neg he]
      rw [ih]
      constructor
      · rintro ⟨v, hv, hne⟩; exact ⟨v, List.mem_cons_of_mem _ hv, hne⟩
      · rintro ⟨v, hv, hne⟩
        rcases List.mem_cons.1 hv with e' | e'
        · exact absurd (by rw [← e']) he
        · exact ⟨v, e', hne⟩
theorem ownsRow_rowP {w : World} {b : Nat} {v : Value} {m : List Plc} (h : w.ownsRow b 105 3 v m.length (flatP m)) : RowP w v m := by
  rcases h.2 with ⟨hv, h0⟩ | ⟨g, cap, cur, hv, _, hg, hn, hc, hcs, htk⟩
  · exact .inl ⟨List.eq_nil_of_length_eq_zero h0, hv⟩
  · refine .inr ⟨g, cap, hv, (Array.getElem?_eq_some_iff.1 hg).1, fun j hj => ?_⟩
    have each : ∀ c, c < 3 → w.cell? ⟨g, j * 3 + c, none⟩ = (encP (m.getD j z3))[c]? := fun c hc4 => by
      rw [← flatP_get m j c hj hc4, ← htk, List.getElem?_take_of_lt (by omega)]
      simp [World.cell?, hg]
    exact ⟨each 0 (by omega), each 1 (by omega), each 2 (by omega)⟩
end Go.Proofs.YtnnjanaclgjneaaGreatDoor

/- The reference's places, in their order: the walk. -/
namespace Go.Proofs.YtnnjanaclgjneaaGreatDoor
open Go.RowKit Go.Maps Go.Sort
set_option maxRecDepth 100000

def okM (l : List OneR) (k : Nat) (m : List Plc) : Prop := Rising m ∧ m.length ≤ k ∧ ∀ x, x ∈ m ↔ ∃ v, (x, v) ∈ l.take k ∧ v ≠ 0
theorem okM.skip {l : List OneR} {k : Nat} {m : List Plc} (h : okM l k m) (hk : k < l.length) (h0 : (l.getD k dO).2 = 0) : okM l (k + 1) m := by
  refine ⟨h.1, by have := h.2.1; omega, fun x => ?_⟩
  rw [h.2.2 x, List.take_succ_eq_append_getElem hk]
  have e : l[k].2 = 0 := by simpa [hk] using h0
  constructor
  · rintro ⟨v, hv, hne⟩; exact ⟨v, List.mem_append.2 (.inl hv), hne⟩
  · rintro ⟨v, hv, hne⟩
    rcases List.mem_append.1 hv with hv | hv
    · exact ⟨v, hv, hne⟩
    · rw [← List.mem_singleton.1 hv] at e; exact absurd e hne
theorem okM.new {l : List OneR} {k : Nat} {m : List Plc} (h : okM l k m) (hnd : (l.map (·.1)).Nodup) (hk : k < l.length) : (l.getD k dO).1 ∉ m := by
  intro hx
  obtain ⟨v, hv, _⟩ := (h.2.2 _).1 hx
  obtain ⟨i, hi, he⟩ := List.getElem_of_mem hv
  have hi' : i < k := by simp at hi; omega
  have e1 : l[i].1 = l[k].1 := by
    have : (l.take k)[i] = l[i] := List.getElem_take
    rw [this] at he
    have e2 : l.getD k dO = l[k] := by simp [hk]
    rw [he, ← e2]
  have := (List.pairwise_iff_getElem.1 hnd) i k (by simp; omega) (by simpa using hk) hi'
  simp at this
  exact this e1
theorem okM.put {l : List OneR} {k j : Nat} {m : List Plc} (h : okM l k m) (hk : k < l.length) (h0 : (l.getD k dO).2 ≠ 0) (hj : j ≤ m.length) (hr : Rising (insAt m j (l.getD k dO).1)) : okM l (k + 1) (insAt m j (l.getD k dO).1) := by
  refine ⟨hr, by have := h.2.1; rw [insAt_length m j hj]; omega, fun x => ?_⟩
  have e2 : l.getD k dO = l[k] := by simp [hk]
  rw [mem_insAt, h.2.2 x, List.take_succ_eq_append_getElem hk, e2]
  rw [e2] at h0
  constructor
  · rintro (rfl | ⟨v, hv, hne⟩)
    · exact ⟨l[k].2, List.mem_append.2 (.inr (List.mem_singleton.2 rfl)), h0⟩
    · exact ⟨v, List.mem_append.2 (.inl hv), hne⟩
  · rintro ⟨v, hv, hne⟩
    rcases List.mem_append.1 hv with hv | hv
    · exact .inr ⟨v, hv, hne⟩
    · exact .inl (by rw [← List.mem_singleton.1 hv])

set_option maxRecDepth 100000 in
set_option maxHeartbeats 6400000 in
theorem refPlaces_any {u : Nat} {F : Nat → Prop} {l : List OneR} {w : World} (hl : l.length ≤ 1000000) (hnd : (l.map (·.1)).Nodup) (hU : IsU w u F l) :
    Calls Tryz.prog 87 #[.pointer (some ⟨u, 0, none⟩)] w fun e w' => ∃ m v, e = .returned v ∧ PlacesOf (getL l) m ∧ m.length ≤ l.length ∧ w'.ownsRow w.heap.size 105 3 v m.length (flatP m) ∧ Below w.heap.size w w' := by
  obtain ⟨A, cap, hblk, hown, hsep, hF⟩ := hU.full
  have hrow := ownsRow_words hown
  have hul := hblk.1
  obtain ⟨i0, hi, hz0, hz1, hz2⟩ := info_parts infoPlace
  have HROW := Lib.hid hrow
  have HB : Hid (∀ w', Below w.heap.size w w' → ∀ i, w'.cell? ⟨u, i, none⟩ = [Value.slice A l.length cap][i]?) := Lib.hid fun w' hb i => by rw [hb.cell (p := ⟨u, i, none⟩) hul]; exact hblk.rule i
  clear hrow hblk hown hsep hF
  have hown0 : (w.alloc (.cells #[] 105)).ownsRow w.heap.size 105 3 (.slice (some ⟨w.heap.size, 0, none⟩) 0 0) 0 [] := ⟨rfl, .inr ⟨w.heap.size, 0, #[], rfl, Nat.le_refl _, heap_alloc_new w _, Nat.le_refl _, Nat.zero_le _, rfl, rfl⟩⟩
  have hB0 : Below w.heap.size w (w.alloc (.cells #[] 105)) := (Below.refl _ w).alloc (Nat.le_refl _) _
  go_enter Tryz.func87, Tryz.ntmps87
  go_wp2_with fail
  go_loopw [3, 4] (fun v i wr => ∃ (k : Nat) (m : List Plc), k ≤ l.length ∧ i = .int .i64 k ∧ okM l k m ∧ wr.ownsRow w.heap.size 105 3 v m.length (flatP m) ∧ Below w.heap.size w wr) (fun _ i _ => l.length - (intOf i).toNat)
  case atStart => exact ⟨0, [], by omega, rfl, ⟨List.Pairwise.nil, by simp, by simp⟩, hown0, hB0⟩
  case round =>
    obtain ⟨k, m, hk, rfl, hm, hrw, hBr⟩ := hrel
    have ru := HB.out _ hBr
    clear hown0 hB0
    by_cases hlt : k < l.length
    · rcases HROW.out with h0 | ⟨g, rfl, hgl, hc⟩
      · rw [h0] at hlt; simp at hlt
      obtain ⟨c0, c1, c2, c3⟩ := hc k hlt
      clear hc
      generalize ho : l.getD k dO = o at c0 c1 c2 c3
      obtain ⟨⟨x, y, z⟩, v0⟩ := o
      simp only at c0 c1 c2 c3
      have HC : Hid (∀ w', Below w.heap.size w w' → (w'.cell? ⟨g, k * 4, none⟩ = some (.int .i64 x) ∧ w'.cell? ⟨g, k * 4 + 1, none⟩ = some (.int .i64 y) ∧ w'.cell? ⟨g, k * 4 + 2, none⟩ = some (.int .i64 z) ∧ w'.cell? ⟨g, k * 4 + 3, none⟩ = some (.int .u64 v0))) := Lib.hid fun w' hb => by
        refine ⟨?_, ?_, ?_, ?_⟩
        · rw [hb.cell (p := ⟨g, k * 4, none⟩) hgl]; exact c0
        · rw [hb.cell (p := ⟨g, k * 4 + 1, none⟩) hgl]; exact c1
        · rw [hb.cell (p := ⟨g, k * 4 + 2, none⟩) hgl]; exact c2
        · rw [hb.cell (p := ⟨g, k * 4 + 3, none⟩) hgl]; exact c3
      have HO := Lib.hid ho
      clear c0 c1 c2 c3 ho
      obtain ⟨c0, c1, c2, c3⟩ := HC.out _ hBr
      by_cases hv0 : v0 = 0
      · subst hv0
        go_wp2_with fail
        exact ⟨⟨k + 1, m, by omega, rfl, hm.skip hlt (by rw [HO.out]), hrw, hBr⟩, by simp [intOf]; omega⟩
      · have hml : m.length ≤ k := hm.2.1
        obtain ⟨A3, cap3, rfl⟩ := ownsRow_slice hrw
        obtain ⟨v', w2, hrun, hown2, hgrow, hv'⟩ := run_append_rows (P := Tryz.prog) 185 185 w.heap.size 105 i0 (.agg #[.int .i64 0, .int .i64 0, .int .i64 0]) 3 24 Tryz.underlying185 hi hz0 hz1 hz2 rfl (by decide) _ _ _ _ (hrw.alloc (.cells #[.int .i64 x, .int .i64 y, .int .i64 z] 105)) (some ⟨wr.heap.size, 0, none⟩) 1 1 [.int .i64 x, .int .i64 y, .int .i64 z] rfl
          (.inr ⟨_, rfl, cells_new _ _ _⟩) (by simp [Value.oneCell']) (by simp [maxLen]; omega) (by omega) (by have := hBr.size; simp; omega)
        obtain ⟨b, cap', rfl, hwb, hbl⟩ := hown2.form (by omega)
        have hB2 : Below w.heap.size w w2 := by
          have h1 := hBr.alloc hBr.size (.cells #[.int .i64 x, .int .i64 y, .int .i64 z] 105)
          exact Turn.below h1 (T := fun k => (Value.slice A3 m.length cap3).ownBlock = some k) ⟨hgrow.os, hgrow.tape, hgrow.output, hgrow.size, fun k hk hn => hgrow.block k hk (fun e => hn e.symm)⟩ h1.size fun k hk => (hrw.lt k hk).1
        go_wp2_with (first | (at_builtin; refine wpList_append_run rfl _ _ 185 rfl hrun rfl rfl ?_))
        have hown3 : w2.ownsRow w.heap.size 105 3 (.slice (some ⟨b, 0, none⟩) (m.length + 1) cap') (m.length + 1) (flatP (insAt m m.length (x, y, z))) := by
          have e : flatP (insAt m m.length (x, y, z)) = flatP m ++ [.int .i64 x, .int .i64 y, .int .i64 z] := by unfold insAt; simp [flatP, encP]
          rw [e]; exact hown2
        clear hrun hown2 hgrow hv' hrw c0 c1 c2 c3 ru
        have HM := Lib.hid hm
        clear hm
        go_loopw [5] (fun kk wq => ∃ j : Nat, j ≤ m.length ∧ kk = .int .i64 j ∧ (∀ t ∈ m.drop j, ltOf cmpP (x, y, z) t = true) ∧ wq.ownsRow w.heap.size 105 3 (.slice (some ⟨b, 0, none⟩) (m.length + 1) cap') (m.length + 1) (flatP (insAt m j (x, y, z))) ∧ Below w.heap.size w wq) (fun kk _ => (intOf kk).toNat)
        case atStart => exact ⟨m.length, Nat.le_refl _, by simp, by simp, hown3, hB2⟩
        case round =>
          obtain ⟨j, hj, rfl, hd, ho3, hBq⟩ := hrel
          clear hown3 hB2
          have HC8 : Hid (∀ w6 w7 : World, (w6.ownsRow w.heap.size 105 3 (.slice (some ⟨b, 0, none⟩) (m.length + 1) cap') (m.length + 1) (flatP (insAt m j (x, y, z))) ∧ Below w.heap.size w w6) → Below w6.heap.size w6 w7 → (w7.ownsRow w.heap.size 105 3 (.slice (some ⟨b, 0, none⟩) (m.length + 1) cap') (m.length + 1) (flatP (insAt m j (x, y, z))) ∧ Below w.heap.size w w7)) := Lib.hid fun w6 w7 h hb => ⟨ownsRow_kept h.1 fun k e => hb.block k (h.1.lt k e).2, h.2.trans (hb.mono h.2.size)⟩
          rcases j with _ | j
          · go_wp2_with fail
            refine Ord.wp_chain [] (fun w' => w'.ownsRow w.heap.size 105 3 (.slice (some ⟨b, 0, none⟩) (m.length + 1) cap') (m.length + 1) (flatP (insAt m 0 (x, y, z))) ∧ Below w.heap.size w w') (fun _ _ => True) (by kernel_rfl) (by kernel_rfl) (by kernel_rfl) (And.intro ho3.drew hBq.drew) trivial (fun hT => ?_)
            have hT9 := Lib.hid hT
            clear hT
            repeat (first
              | (refine Ord.ch_value (v := ?_) hT9.out (by decide) (by rfl) ?_ ?_; rotate_left; (focus (intro w5 hS; skip; go_simp <;> with_reducible rfl)); (try simp only [Act.put, List.setIfInBounds_toArray, List.set_cons_zero, List.set_cons_succ]))
              | (refine Ord.ch_off hT9.out (by decide) (by rfl) ?_; (try simp only [Act.put, List.setIfInBounds_toArray, List.set_cons_zero, List.set_cons_succ]))
              | (refine Ord.ch_call (v := ?_) (f := ?_) (args := ?_) hT9.out (by decide) (by rfl) ?_ ?_ ?_; rotate_left 3; (focus (intro w5 hS; skip; go_simp; constructor <;> with_reducible rfl)); (focus (intro w5 hS; (first | fail))); (try simp only [Act.put, List.setIfInBounds_toArray, List.set_cons_zero, List.set_cons_succ])))
            refine Ord.InText.nil fun w5 hS => ?_
            clear hT9
            obtain ⟨hC, hA⟩ := Ord.chain_end hS
            clear hS
            clear hA
            go_wp2_with fail
            have hins := HM.out.put hlt (by rw [HO.out]; exact hv0) hj (by rw [HO.out]; exact rising_insAt HM.out.1 hj (by have := HM.out.new hnd hlt; rwa [HO.out] at this) hd (.inl rfl))
            rw [HO.out] at hins
            exact ⟨⟨k + 1, _, by omega, by simp, hins, by rw [insAt_length m _ hj]; exact hC.1, hC.2⟩, by simp [intOf]; omega⟩
          · have HCELL : Hid (∀ w' : World, w'.ownsRow w.heap.size 105 3 (.slice (some ⟨b, 0, none⟩) (m.length + 1) cap') (m.length + 1) (flatP (insAt m (j + 1) (x, y, z))) →
                (w'.cell? ⟨b, (j + 1) * 3, none⟩ = some (.int .i64 x) ∧ w'.cell? ⟨b, (j + 1) * 3 + 1, none⟩ = some (.int .i64 y) ∧ w'.cell? ⟨b, (j + 1) * 3 + 2, none⟩ = some (.int .i64 z) ∧
                 w'.cell? ⟨b, j * 3, none⟩ = some (.int .i64 (m.getD j z3).1) ∧ w'.cell? ⟨b, j * 3 + 1, none⟩ = some (.int .i64 (m.getD j z3).2.1) ∧ w'.cell? ⟨b, j * 3 + 2, none⟩ = some (.int .i64 (m.getD j z3).2.2))) := Lib.hid fun w' h => by
              have hlen := insAt_length m (j + 1) hj (x, y, z)
              have e1 : ∀ c, c < 3 → w'.cell? ⟨b, (j + 1) * 3 + c, none⟩ = (encP (x, y, z))[c]? := fun c hc => by
                rw [h.cellAt ((j + 1) * 3 + c) (by omega), flatP_get _ _ _ (by omega) hc, insAt_get_self m (j + 1) hj]
              have e2 : ∀ c, c < 3 → w'.cell? ⟨b, j * 3 + c, none⟩ = (encP (m.getD j z3))[c]? := fun c hc => by
                rw [h.cellAt (j * 3 + c) (by omega), flatP_get _ _ _ (by omega) hc, insAt_get_prev m j (by omega)]
              exact ⟨e1 0 (by omega), e1 1 (by omega), e1 2 (by omega), e2 0 (by omega), e2 1 (by omega), e2 2 (by omega)⟩
            obtain ⟨t, ht⟩ : ∃ t, m.getD j z3 = t := ⟨_, rfl⟩
            rw [ht] at HCELL
            obtain ⟨p, q, s⟩ := t
            simp only at HCELL
            have HT := Lib.hid ht
            clear ht
            have q1 : j < m.length := by omega
            have q2 : (0 : Int) ≤ (j : Int) + 1 := by omega
            have q3 : j < m.length + 1 := by omega
            have q4 : j ≤ m.length := by omega
            have q7 : IntKind.i64.wrap (j : Int) = (j : Int) := by rw [IntKind.wrap_i64]; omega
            have q5 : (j : Int) ≤ (m.length : Int) := by omega
            have q6 : (j : Int) < (m.length : Int) + 1 := by omega
            go_wp2_with fail
            refine Ord.wp_chain [] (fun w' => w'.ownsRow w.heap.size 105 3 (.slice (some ⟨b, 0, none⟩) (m.length + 1) cap') (m.length + 1) (flatP (insAt m (j + 1) (x, y, z))) ∧ Below w.heap.size w w') (fun _ _ => True) (by kernel_rfl) (by kernel_rfl) (by kernel_rfl) (And.intro ho3.drew hBq.drew) trivial (fun hT => ?_)
            have hT9 := Lib.hid hT
            clear hT
            repeat (first
              | (refine Ord.ch_value (v := ?_) hT9.out (by decide) (by rfl) ?_ ?_; rotate_left; (focus (intro w5 hS; obtain ⟨c0, c1, c2, c3, c4, c5⟩ := HCELL.out _ hS.1; go_simp <;> with_reducible rfl)); (try simp only [Act.put, List.setIfInBounds_toArray, List.set_cons_zero, List.set_cons_succ]))
              | (refine Ord.ch_off hT9.out (by decide) (by rfl) ?_; (try simp only [Act.put, List.setIfInBounds_toArray, List.set_cons_zero, List.set_cons_succ]))
              | (refine Ord.ch_call (v := ?_) (f := ?_) (args := ?_) hT9.out (by decide) (by rfl) ?_ ?_ ?_; rotate_left 3; (focus (intro w5 hS; obtain ⟨c0, c1, c2, c3, c4, c5⟩ := HCELL.out _ hS.1; go_simp; constructor <;> with_reducible rfl)); (focus (intro w5 hS; (first | (with_reducible refine (less_any _ _ _ _ _ _ _).mono ?_; rintro e w6 ⟨rfl, hb5⟩; constructor; with_reducible rfl; exact ⟨HC8.out _ _ hS hb5, fun _ h => h⟩)))); (try simp only [Act.put, List.setIfInBounds_toArray, List.set_cons_zero, List.set_cons_succ])))
            refine Ord.InText.nil fun w5 hS => ?_
            clear hT9
            obtain ⟨hC, hA⟩ := Ord.chain_end hS
            clear hS
            clear hA
            obtain ⟨c0, c1, c2, c3, c4, c5⟩ := HCELL.out _ hC.1
            by_cases hL : ltOf cmpP (x, y, z) (p, q, s) = true
            · rw [hL]
              have hb5 : b < w5.heap.size := (hC.1.lt b rfl).2
              have hnb : ¬ w5.heap.size = b := by omega
              have hnb' : ¬ b = w5.heap.size := by omega
              have rA : ∀ ob i, (w5.alloc ob).cell? ⟨b, i, none⟩ = w5.cell? ⟨b, i, none⟩ := fun ob i => World.cell?_of_block (Below.heap_alloc _ _ _ hb5)
              have zA : ∀ ob i, (w5.alloc ob).frozen? ⟨b, i, none⟩ = false := fun ob i => (World.frozen?_of_block (Below.heap_alloc _ _ _ hb5)).trans (hC.1.frozenAt i)
              have zW : ∀ i, w5.frozen? ⟨b, i, none⟩ = false := fun i => hC.1.frozenAt i
              go_wp2_with fail
              have hx := insAt_exch m j q1 (x, y, z)
              rw [HT.out] at hx
              simp only at hx
              have hp3 : (j + 1) * 3 = j * 3 + 3 := by omega
              refine ⟨⟨j, by omega, rfl, fun t ht => ?_, ?_, ?_⟩, by simp [intOf]⟩
              · rw [List.drop_eq_getElem_cons q1] at ht
                rcases List.mem_cons.1 ht with rfl | ht
                · have : m[j] = (p, q, s) := by rw [← HT.out]; simp [q1]
                  rw [this]; exact hL
                · exact hd t ht
              · rw [← hx, hp3]
                exact ((((((((hC.1.stored _ _).1).stored _ _).1).stored _ _).1.stored _ _).1.stored _ _).1.stored _ _).1.alloc _
              · exact Turn.below hC.2 (((((((Turn.refl (fun k => k = b) w5).setCell (p := ⟨b, _, none⟩) (fun _ => rfl) _).setCell (p := ⟨b, _, none⟩) (fun _ => rfl) _).setCell (p := ⟨b, _, none⟩) (fun _ => rfl) _).setCell (p := ⟨b, _, none⟩) (fun _ => rfl) _).setCell (p := ⟨b, _, none⟩) (fun _ => rfl) _).setCell (p := ⟨b, _, none⟩) (fun _ => rfl) _ |>.alloc _) hC.2.size fun k hk => by subst hk; exact hwb
            · have hL' : ltOf cmpP (x, y, z) (p, q, s) = false := by simpa using hL
              rw [hL']
              go_wp2_with fail
              have hins := HM.out.put hlt (by rw [HO.out]; exact hv0) hj (by rw [HO.out]; exact rising_insAt HM.out.1 hj (by have := HM.out.new hnd hlt; rwa [HO.out] at this) hd (.inr (by rw [Nat.add_sub_cancel, HT.out]; exact hL')))
              rw [HO.out] at hins
              exact ⟨⟨k + 1, _, by omega, by simp, hins, by rw [insAt_length m _ hj]; exact hC.1, hC.2⟩, by simp [intOf]; omega⟩
    · go_wp2_with fail
      have : k = l.length := by omega
      subst this
      go_ret
      exact ⟨m, _, rfl, ⟨hm.1, fun x => by rw [hm.2.2 x, getL_ne hnd x]; simp⟩, hm.2.1, hrw, hBr⟩
end Go.Proofs.YtnnjanaclgjneaaGreatDoor

/- The structure of the statements' lists; a program's memory with the words of the reference's. -/
namespace Go.Proofs.YtnnjanaclgjneaaGreatDoor
open Go.RowKit Go.Maps
set_option maxRecDepth 100000

/-- A row of places, as a thing. -/
theorem Env.addPl {w0 w w' : World} {L : List Item} {v : Value} {l : List Plc} (h : Env w0 L w) (ho : w'.ownsRow w.heap.size 105 3 v l.length (flatP l)) (hb : Below w.heap.size w w') : Env w0 (rowKI encP 3 v 105 l :: L) w' :=
  h.add (rowKI encP 3 v 105 l) hb (ownsRow_base ho (Nat.zero_le _)) fun k hk => ho.lt k hk
theorem encP_len (x : Plc) : (encP x).length = 3 := rfl
/-- What is laid so far. -/
def laidF (f : Plc → Int) (l : List Plc) : Plc → Int := fun x => if x ∈ l then f x else 0
theorem laidF_nil (f : Plc → Int) : laidF f [] = fun _ => 0 := by funext x; simp [laidF]
theorem laidF_step {f : Plc → Int} {l : List Plc} {j : Nat} (hj : j < l.length) {x : Plc} (hx : l.getD j z3 = x) : laidF f (l.take (j + 1)) = upd (laidF f (l.take j)) x (f x) := by
  have e : l.take (j + 1) = l.take j ++ [x] := by
    rw [List.take_succ_eq_append_getElem hj, ← hx]
    simp [hj]
  funext y
  rw [e]
  unfold laidF upd
  by_cases hy : y = x
  · subst hy; simp
  · simp [hy]
theorem laidF_all {f : Plc → Int} {l : List Plc} (h : PlacesOf f l) : laidF f l = f := by
  funext y
  unfold laidF
  by_cases hy : y ∈ l
  · rw [if_pos hy]
  · rw [if_neg hy]
    exact (Classical.byContradiction fun h0 => hy ((h.2 y).2 (fun e => h0 e.symm)))
end Go.Proofs.YtnnjanaclgjneaaGreatDoor

/- The contract of nodes: slots that can be, each once. -/
namespace Go.Proofs.YtnnjanaclgjneaaGreatDoor
open Go.RowKit Go.Maps
set_option maxRecDepth 100000

theorem encN_len (x : Nd) : (encN x).length = 4 := rfl
theorem encN_one (x : Nd) : ∀ u ∈ encN x, u.oneCell' = true := by intro u hu; simp [encN] at hu; rcases hu with rfl | rfl | rfl | rfl <;> rfl
theorem infoNd : (Tryz.prog.info? 132).map (fun i => (i.zero, i.size, i.bytes)) = some (some (.agg #[.int .i64 0, .int .u64 0, .int .u64 0, .bool false]), 4, 32) := by kernel_rfl
end Go.Proofs.YtnnjanaclgjneaaGreatDoor

/- The reference's Bit and Level; a skip list that is laid. -/
namespace Go.Proofs.YtnnjanaclgjneaaGreatDoor
open Go.RowKit Go.Maps
set_option maxRecDepth 100000

theorem halfT_in {n : Int} (h : 0 ≤ n ∧ n ≤ 65535) : ∀ k, 0 ≤ halfT n k ∧ halfT n k ≤ 65535
  | 0 => h
  | k + 1 => by
    have ih := halfT_in h k
    show 0 ≤ (halfT n k).tdiv 2 ∧ (halfT n k).tdiv 2 ≤ 65535
    rw [Int.tdiv_eq_ediv_of_nonneg ih.1]
    omega
set_option maxHeartbeats 800000 in
theorem bit_t (n : Int) (k : Nat) (hn : 0 ≤ n ∧ n ≤ 65535) (hk : k ≤ 1000) (w : World) :
    Calls Tryz.prog 106 #[.int .i64 n, .int .i64 (k : Int)] w fun o w' => o = .returned (.bool (bitT n k)) ∧ w' = w := by
  have HH := Lib.hid (halfT_in hn)
  clear hn
  go_enter Tryz.func106, Tryz.ntmps106
  go_wp2_with fail
  go_loopw [0, 5] (fun nv iv wr => ∃ i : Nat, i ≤ k ∧ nv = .int .i64 (halfT n i) ∧ iv = .int .i64 i ∧ wr = w) (fun _ iv _ => k - (intOf iv).toNat)
  case atStart => exact ⟨0, Nat.zero_le _, rfl, rfl, rfl⟩
  case round =>
    obtain ⟨i, hi, rfl, rfl, rfl⟩ := hrel
    by_cases hlt : i < k
    · have hb : decide ((i : Int) < (k : Int)) = true := by simp; omega
      have h9 : wrap64 ((halfT n i).tdiv 2) = halfT n (i + 1) := by
        show _ = (halfT n i).tdiv 2
        have ih := HH.out (i + 1)
        have e : halfT n (i + 1) = (halfT n i).tdiv 2 := rfl
        rw [e] at ih
        exact w64 _ (by omega)
      go_wp2_with fail
      exact ⟨⟨i + 1, by omega, by first | rfl | (rw [h9]), by simp, by first | rfl | trivial⟩, by simp [intOf]; omega⟩
    · have hik : i = k := by omega
      subst hik
      have hb : decide ((i : Int) < (i : Int)) = false := by simp
      have ih := HH.out i
      have h9 : wrap64 ((halfT n i).tmod 2) = (halfT n i).tmod 2 := by
        rw [Int.tmod_eq_emod_of_nonneg ih.1]
        exact w64 _ (by omega)
      have e9 : bitT n i = (halfT n i % 2 == 1) := by unfold bitT; rw [Int.tmod_eq_emod_of_nonneg ih.1]
      have E9 := Lib.hid e9
      clear e9
      go_wp2_with fail
      go_ret
      rw [E9.out]
      exact ⟨rfl, rfl⟩

theorem lvT_take {l : List Nt} {k j : Nat} (hj : j < l.length) : lvT (l.take (j + 1)) k = lvT (l.take j) k ++ (if (k : Int) < (l.getD j default).top then [ndT k (l.getD j default)] else []) := by
  have e : l.take (j + 1) = l.take j ++ [l.getD j default] := by
    rw [List.take_succ_eq_append_getElem hj]
    simp [hj]
  rw [e]
  unfold lvT
  rw [List.filter_append, List.map_append]
  by_cases h : (k : Int) < (l.getD j default).top
  · rw [if_pos h, List.filter_cons_of_pos (by simpa using h)]
    rfl
  · rw [if_neg h, List.filter_cons_of_neg (by simpa using h)]
    rfl
section
variable {w0 w : World} {L : List Item}
set_option maxHeartbeats 6400000 in
theorem level_t (k : Nat) (hk : k ≤ 1000) (ns : List Nt) (g : Option Addr) (c : Nat) (hn : ns.length ≤ 30) (hok : ∀ n ∈ ns, 0 ≤ n.marks ∧ n.marks ≤ 65535) (hE : Env w0 (rowKI encT 4 (.slice g ns.length c) 128 ns :: L) w) :
    Calls Tryz.prog 57 #[.slice g ns.length c, .int .i64 (k : Int)] w fun o w' => ∃ (g' : Option Addr) (c' : Nat), o = .returned (.slice g' (lvT ns k).length c') ∧ Env w0 (rowKI encN 4 (.slice g' (lvT ns k).length c') 132 (lvT ns k) :: rowKI encT 4 (.slice g ns.length c) 128 ns :: L) w' := by
  have hE1 := hE.addEmptyK (enc := encN) (k := 4) w.heap.size rfl 132
  have HOK := Lib.hid hok
  clear hE hok
  go_enter Tryz.func57, Tryz.ntmps57
  go_wp2_with fail
  go_loopw [5, 6] (fun ov iv wr => ∃ (j : Nat) (l : List Nd) (g' : Option Addr) (c' : Nat), ov = .slice g' l.length c' ∧ iv = .int .i64 j ∧ j ≤ ns.length ∧ Hid (l = lvT (ns.take j) k) ∧ Env w0 (rowKI encN 4 (.slice g' l.length c') 132 l :: rowKI encT 4 (.slice g ns.length c) 128 ns :: L) wr) (fun _ iv _ => ns.length - (intOf iv).toNat)
  case atStart => exact ⟨0, [], _, _, rfl, rfl, Nat.zero_le _, Lib.hid rfl, hE1⟩
  case round =>
    clear hE1
    obtain ⟨j, l, g', c', rfl, rfl, hj, hl, hE⟩ := hrel
    by_cases hlt : j < ns.length
    · have hb1 : decide ((j : Int) < (ns.length : Int)) = true := by simp; omega
      have hlt1 : (j : Int) < (ns.length : Int) := by omega
      obtain ⟨b, rfl⟩ := hE.atT 1 rfl rfl (by omega)
      obtain ⟨y, hy⟩ : ∃ y, ns.getD j default = y := ⟨_, rfl⟩
      have hcy : ∀ (z : Item) v, Env w0 (z :: rowKI encT 4 (.slice (some ⟨b, 0, none⟩) ns.length c) 128 ns :: L) v → v.cell? ⟨b, j * 4, none⟩ = some (.int .i64 y.s) ∧ v.cell? ⟨b, j * 4 + 1, none⟩ = some (.int .u64 y.key) ∧ v.cell? ⟨b, j * 4 + 2, none⟩ = some (.int .i64 y.top) ∧ v.cell? ⟨b, j * 4 + 3, none⟩ = some (.int .i64 y.marks) := fun z v hv => hv.cellT 1 rfl rfl hlt hy
      have hym : 0 ≤ y.marks ∧ y.marks ≤ 65535 := HOK.out y (by rw [← hy, List.getD_eq_getElem?_getD, List.getElem?_eq_getElem hlt]; exact List.getElem_mem hlt)
      have hst := lvT_take (k := k) hlt
      rw [hy] at hst
      have HST := Lib.hid hst
      have HBT := Lib.hid fun (v : World) => bit_t y.marks k hym hk v
      obtain ⟨b0, b1, b2, b3⟩ := hcy _ _ hE
      clear hy hst hym
      obtain ⟨ys, yk, yt, ym⟩ := y
      dsimp only at HST HBT hcy b0 b1 b2 b3
      have hll : l.length ≤ 30 := by
        rw [hl.out]
        have h1 := lvT_length (ns.take j) k
        have h2 : (ns.take j).length ≤ ns.length := by rw [List.length_take]; omega
        omega
      by_cases htp : (k : Int) < yt
      · rw [if_pos htp] at HST
        have hb2 : decide (yt > (k : Int)) = true := by simpa using htp
        have hb3 : decide ((k : Int) < yt) = true := by simpa using htp
        clear htp
        obtain ⟨bb, hbb⟩ : ∃ bb, bitT ym k = bb := ⟨_, rfl⟩
        have hnd : ndT k ⟨ys, yk, yt, ym⟩ = ⟨ys, yk, 0, bb⟩ := by unfold ndT; rw [hbb]
        rw [hnd] at HST
        simp only [hbb] at HBT
        clear hbb hnd
        have hE9 := hE.drew.box wr.heap.size rfl (encN ⟨ys, yk, 0, bb⟩) 132
        obtain ⟨A9, c9, w9, hrun, hE10⟩ := hE9.appendK (xs := [(⟨ys, yk, 0, bb⟩ : Nd)]) encN_len (by decide) encN_one 1 rfl 129 129 Tryz.underlying129 rfl infoNd 1 (Blk.rowK (enc := encN) (k := 4) encN_len (l := [(⟨ys, yk, 0, bb⟩ : Nd)]) (show Blk 0 _ _ (flatK encN [(⟨ys, yk, 0, bb⟩ : Nd)]) from hE9.get 0 rfl)) (fun h => by cases h) (by unfold maxLen; simp; omega) (by simp; omega)
        have HRUN := Lib.hid hrun
        have hE11 : Env w0 (rowKI encN 4 (.slice A9 (l.length + 1) c9) 132 (l ++ [⟨ys, yk, 0, bb⟩]) :: rowKI encT 4 (.slice (some ⟨b, 0, none⟩) ns.length c) 128 ns :: L) w9 := by
          have h9 := hE10.sub (.cons _ (List.Sublist.refl _))
          simpa using h9
        have HC0 := Lib.hid (hcy _ _ hE.drew)
        have HC1 := Lib.hid (hcy _ _ (hE9.sub (.cons _ (List.Sublist.refl _))))
        have HC2 := Lib.hid (hcy _ _ hE11)
        have HE11 := Lib.hid hE11
        clear hE9 hE10 hE11 hrun hcy
        go_wp2_with fail
        clear b0 b1 b2 b3
        refine Ord.wp_chain [19, 20] (fun v => v.cell? ⟨b, j * 4, none⟩ = some (.int .i64 ys) ∧ v.cell? ⟨b, j * 4 + 1, none⟩ = some (.int .u64 yk) ∧ v.cell? ⟨b, j * 4 + 2, none⟩ = some (.int .i64 yt) ∧ v.cell? ⟨b, j * 4 + 3, none⟩ = some (.int .i64 ym)) (fun jj v => [wr.drew, wr.drew.alloc (.cells (encN ⟨ys, yk, 0, bb⟩).toArray 132), w9][jj]? = some v) (by kernel_rfl) (by kernel_rfl) (by kernel_rfl) HC0.out rfl (fun hT => ?_)
        have hT9 := Lib.hid hT
        clear hT
        repeat (first
          | (refine Ord.ch_value (v := ?_) hT9.out (by decide) (by rfl) ?_ ?_; rotate_left; (focus (intro w5 hS; obtain ⟨a0, a1, a2, a3⟩ := hS; go_simp <;> with_reducible rfl)); (try simp only [Act.put, List.setIfInBounds_toArray, List.set_cons_zero, List.set_cons_succ]))
          | (refine Ord.ch_off hT9.out (by decide) (by rfl) ?_; (try simp only [Act.put, List.setIfInBounds_toArray, List.set_cons_zero, List.set_cons_succ]))
          | (refine Ord.ch_call (v := ?_) (f := ?_) (args := ?_) hT9.out (by decide) (by rfl) ?_ ?_ ?_; rotate_left 3; (focus (intro w5 hS; obtain ⟨a0, a1, a2, a3⟩ := hS; go_simp; constructor <;> with_reducible rfl)); (focus (intro w5 hS; (first | (with_reducible refine (HBT.out _).mono ?_; rintro e w6 ⟨rfl, rfl⟩; constructor; with_reducible rfl; exact ⟨hS, fun _ h => h⟩)))); (try simp only [Act.put, List.setIfInBounds_toArray, List.set_cons_zero, List.set_cons_succ])))
        refine Ord.ch_turn (v := .slice (some ⟨wr.heap.size, 0, none⟩) 1 1) 0 hT9.out rfl (by decide) (Or.inl rfl) (by rfl) ?_ ?_
        · rintro w5 hC5 hA5
          cases hA5
          go_simp
          simp only [Ord.LandsIn]
          exact ⟨trivial, HC1.out, rfl⟩
        (try simp only [Act.put, List.setIfInBounds_toArray, List.set_cons_zero, List.set_cons_succ])
        refine Ord.ch_turn (v := .slice A9 (l.length + 1) c9) 1 hT9.out rfl (by decide) (Or.inr ⟨_, rfl, by kernel_rfl⟩) (by rfl) ?_ ?_
        · rintro w5 hC5 hA5
          cases hA5
          refine append_lands rfl HRUN.out (by rfl) (by rfl) ⟨HC2.out, rfl⟩
        (try simp only [Act.put, List.setIfInBounds_toArray, List.set_cons_zero, List.set_cons_succ])
        repeat (first
          | (refine Ord.ch_value (v := ?_) hT9.out (by decide) (by rfl) ?_ ?_; rotate_left; (focus (intro w5 hS; skip; go_simp <;> with_reducible rfl)); (try simp only [Act.put, List.setIfInBounds_toArray, List.set_cons_zero, List.set_cons_succ]))
          | (refine Ord.ch_off hT9.out (by decide) (by rfl) ?_; (try simp only [Act.put, List.setIfInBounds_toArray, List.set_cons_zero, List.set_cons_succ])))
        refine Ord.InText.nil fun w5 hS => ?_
        clear hT9
        obtain ⟨hC9, hA9⟩ := Ord.chain_end hS
        clear hS
        cases hA9
        clear hC9 hE
        go_wp2_with fail
        exact ⟨⟨j + 1, l ++ [⟨ys, yk, 0, bb⟩], A9, c9, by simp, by simp, by omega, Lib.hid (by rw [HST.out, ← hl.out]), by simpa using HE11.out⟩, by simp [intOf]; omega⟩
      · rw [if_neg htp, List.append_nil] at HST
        have hb2 : decide (yt > (k : Int)) = false := by simpa using htp
        have hb3 : decide ((k : Int) < yt) = false := by simpa using htp
        clear htp HBT
        go_wp2_with fail
        exact ⟨⟨j + 1, l, g', c', rfl, by simp, by omega, Lib.hid (by rw [HST.out]; exact hl.out), hE⟩, by simp [intOf]; omega⟩
    · have hb1 : decide ((j : Int) < (ns.length : Int)) = false := by simp; omega
      have hjn : j = ns.length := by omega
      have HJ : Hid (l = lvT ns k) := Lib.hid (by rw [hl.out, hjn, List.take_length])
      clear hjn
      go_wp2_with fail
      go_ret
      refine ⟨g', c', by rw [← HJ.out]; rfl, ?_⟩
      rw [← HJ.out]
      exact hE
end
end Go.Proofs.YtnnjanaclgjneaaGreatDoor

/- Threads: the contract of step, where an Alloc goes on. -/
namespace Go.Proofs.YtnnjanaclgjneaaGreatDoor
open Go.RowKit Go.Maps
set_option maxRecDepth 100000

/-- Permutations of things, by counting. -/
theorem perm_of {L L' : List Item} (h : ∀ [BEq Item] [LawfulBEq Item] (z : Item), L.count z = L'.count z) : L.Perm L' := by
  classical
  exact List.perm_iff_count.2 fun z => h z
theorem Env.mem {w0 w : World} {L : List Item} (h : Env w0 L w) {a : Item} (ha : a ∈ L) : a.says w := (h.2.2 a ha).1
end Go.Proofs.YtnnjanaclgjneaaGreatDoor
