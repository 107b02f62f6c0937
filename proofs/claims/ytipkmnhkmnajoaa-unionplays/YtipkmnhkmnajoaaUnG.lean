/- Rows of calls; joins of whatever numbers; the order of joins doesn't matter. -/
import Derived.Test.YtipkmnhkmnajoaaUnF
namespace Go.Proofs.Ytipkmnhkmnajoaa
open Go.RowKit
open Un

namespace Un
structure Op3 where
  k : Int
  u : Int
  v : Int
def opAt (os : List Op3) (i : Nat) : Op3 := os.getD i ⟨0, 0, 0⟩

def okPair (n : Nat) (u v : Int) : Prop := (0 ≤ u ∧ u < (n : Int)) ∧ (0 ≤ v ∧ v < (n : Int))
instance (n : Nat) (u v : Int) : Decidable (okPair n u v) := inferInstanceAs (Decidable (_ ∧ _))
/-- The history behind a join of whatever numbers. -/
def stepJ (n : Nat) (js : List Jn) (u v : Int) : List Jn := if okPair n u v then joinOf js u.toNat v.toNat else js
def freshOf (n : Nat) (js : List Jn) (u v : Int) : Bool := decide (okPair n u v) && decide (rt js u.toNat ≠ rt js v.toNat)
def codeOf (n : Nat) (u v : Int) : Int := if okPair n u v then 0 else 30

theorem good_join {n : Nat} {js : List Jn} (g : Good n js) {u v : Nat} (hu : u < n) (hv : v < n) : Good n (joinOf js u v) := by
  unfold joinOf
  split
  · exact g
  · rename_i c
    split
    · exact ⟨g, rt_lt g hu, rt_lt g hv, c, rt_rt g u, rt_rt g v, rfl⟩
    · exact ⟨g, rt_lt g hv, rt_lt g hu, fun t => c t.symm, rt_rt g v, rt_rt g u, rfl⟩

theorem good_step {n : Nat} {js : List Jn} (g : Good n js) (u v : Int) : Good n (stepJ n js u v) := by
  unfold stepJ
  split
  · rename_i c
    obtain ⟨⟨_, _⟩, _, _⟩ := c
    exact good_join g (by omega) (by omega)
  · exact g

theorem cl_join {n : Nat} {P Q : List (Nat × Nat)} {js : List Jn} (g : Good n js) (h : Cl P js) {u v : Nat} (hu : u < n) (hv : v < n) (hQ : ∀ p, p ∈ Q ↔ p ∈ P ∨ p = (u, v)) : Cl Q (joinOf js u v) := by
  have gj := good_join g hu hv
  unfold joinOf at gj ⊢
  split
  · rename_i c; exact h.same c hQ
  · rename_i c
    rw [if_neg c] at gj
    split
    · rename_i d
      rw [if_pos d] at gj
      exact h.join gj (.inl ⟨rfl, rfl⟩) hQ
    · rename_i d
      rw [if_neg d] at gj
      exact h.join gj (.inr ⟨rfl, rfl⟩) hQ

/-- The pairs of the first i of a row of calls that are pairs of nodes. -/
def prs (n : Nat) (f : Nat → Int × Int) : Nat → List (Nat × Nat)
  | 0 => []
  | i + 1 => if okPair n (f i).1 (f i).2 then prs n f i ++ [((f i).1.toNat, (f i).2.toNat)] else prs n f i
/-- The history behind the first i of them. -/
def his (n : Nat) (f : Nat → Int × Int) : Nat → List Jn
  | 0 => []
  | i + 1 => stepJ n (his n f i) (f i).1 (f i).2

theorem his_good (n : Nat) (f : Nat → Int × Int) : ∀ i, Good n (his n f i)
  | 0 => trivial
  | i + 1 => good_step (his_good n f i) _ _

theorem his_cl (n : Nat) (f : Nat → Int × Int) : ∀ i, Cl (prs n f i) (his n f i)
  | 0 => Cl.nil
  | i + 1 => by
    have ih := his_cl n f i
    have g := his_good n f i
    show Cl (if okPair n (f i).1 (f i).2 then prs n f i ++ [((f i).1.toNat, (f i).2.toNat)] else prs n f i) (if okPair n (f i).1 (f i).2 then joinOf (his n f i) (f i).1.toNat (f i).2.toNat else his n f i)
    split
    · rename_i c
      obtain ⟨⟨_, _⟩, _, _⟩ := c
      exact cl_join g ih (by omega) (by omega) (fun p => by simp)
    · exact ih

theorem prs_mem (n : Nat) (f : Nat → Int × Int) (p : Nat × Nat) : ∀ i, p ∈ prs n f i ↔ ∃ m, m < i ∧ okPair n (f m).1 (f m).2 ∧ p = ((f m).1.toNat, (f m).2.toNat)
  | 0 => by simp [prs]
  | i + 1 => by
    have ih := prs_mem n f p i
    show p ∈ (if okPair n (f i).1 (f i).2 then prs n f i ++ [((f i).1.toNat, (f i).2.toNat)] else prs n f i) ↔ _
    split
    · rename_i c
      rw [List.mem_append, ih, List.mem_singleton]
      constructor
      · rintro (⟨m, a, b, d⟩ | d)
        · exact ⟨m, by omega, b, d⟩
        · exact ⟨i, by omega, c, d⟩
      · rintro ⟨m, a, b, d⟩
        by_cases e : m = i
        · subst e; exact .inr d
        · exact .inl ⟨m, by omega, b, d⟩
    · rename_i c
      rw [ih]
      constructor
      · rintro ⟨m, a, b, d⟩; exact ⟨m, by omega, b, d⟩
      · rintro ⟨m, a, b, d⟩
        by_cases e : m = i
        · subst e; exact absurd b c
        · exact ⟨m, by omega, b, d⟩

theorem okPair_swap (n : Nat) (u v : Int) (h : okPair n u v) : okPair n v u := ⟨h.2, h.1⟩

/-- Turned about and the other way round: the same names. -/
theorem his_turned (n L : Nat) (f g : Nat → Int × Int) (hg : ∀ i, i < L → g i = ((f (L - 1 - i)).2, (f (L - 1 - i)).1)) {v : Nat} (hv : v < n) : nm (his n f L) v = nm (his n g L) v := by
  refine nm_same (his_good n f L) (his_good n g L) (fun x y _ _ => ?_) hv
  rw [his_cl n f L x y, his_cl n g L x y]
  constructor
  · refine Con.mono fun p hp => ?_
    obtain ⟨m, a, b, d⟩ := (prs_mem n f p L).1 hp
    refine .inr ((prs_mem n g _ L).2 ⟨L - 1 - m, by omega, ?_, ?_⟩)
    · rw [hg _ (by omega), show L - 1 - (L - 1 - m) = m by omega]; exact okPair_swap _ _ _ b
    · rw [hg _ (by omega), show L - 1 - (L - 1 - m) = m by omega, d]
  · refine Con.mono fun p hp => ?_
    obtain ⟨m, a, b, d⟩ := (prs_mem n g p L).1 hp
    rw [hg m a] at b d
    exact .inr ((prs_mem n f _ L).2 ⟨L - 1 - m, by omega, okPair_swap _ _ _ b, by rw [d]⟩)

theorem heads_le (js : List Jn) (k : Nat) : heads js k ≤ k := by
  induction k with
  | zero => exact Nat.le_refl _
  | succ k ih => unfold heads; split <;> omega

theorem heads_same {js ks : List Jn} (k : Nat) (h : ∀ v, v < k → nm js v = nm ks v) : heads js k = heads ks k := by
  induction k with
  | zero => rfl
  | succ k ih => unfold heads; rw [ih (fun v hv => h v (by omega)), h k (by omega)]

/-- The least of a set stands ahead of its members. -/
theorem memTo_head {n : Nat} {js : List Jn} (g : Good n js) {v : Nat} (hv : v < n) : (memTo js (rt js v) n).getD 0 0 = (nm js v : Int) ∧ 0 < (memTo js (rt js v) n).length := by
  obtain ⟨h1, h2, h3⟩ := nm_facts g hv
  generalize nm js v = m at *
  generalize rt js v = r at *
  have low : ∀ k, k ≤ m → memTo js r k = [] := by
    intro k
    induction k with
    | zero => intro _; rfl
    | succ k ih =>
      intro hk
      unfold memTo
      rw [if_neg (fun e => by have := h3 k (by omega) e; omega), ih (by omega)]
  have high : ∀ k, m < k → ∃ t, memTo js r k = (m : Int) :: t := by
    intro k
    induction k with
    | zero => intro hk; omega
    | succ k ih =>
      intro hk
      unfold memTo
      by_cases e : k = m
      · subst e; rw [if_pos h2, low k (Nat.le_refl _)]; exact ⟨[], rfl⟩
      · obtain ⟨t, ht⟩ := ih (by omega)
        rw [ht]
        split
        · exact ⟨t ++ [(k : Int)], rfl⟩
        · exact ⟨t, rfl⟩
  obtain ⟨t, ht⟩ := high n h1
  rw [ht]
  exact ⟨rfl, by simp⟩
end Un

/-- A row of calls: three cells each. -/
structure PRow (w : World) (ao : Option Addr) (n cap : Nat) (os : List Op3) : Prop where
  len : n = os.length
  room : n ≤ cap
  most : cap ≤ maxLen
  cell : 0 < n → ∃ b off, ao = some ⟨b, off, none⟩ ∧ ∀ i, i < n → w.cell? ⟨b, off + i * 3, none⟩ = some (.int .i64 (opAt os i).k) ∧ w.cell? ⟨b, off + i * 3 + 1, none⟩ = some (.int .i64 (opAt os i).u) ∧ w.cell? ⟨b, off + i * 3 + 2, none⟩ = some (.int .i64 (opAt os i).v)

theorem PRow.kept {w w' : World} {ao : Option Addr} {n cap : Nat} {os : List Op3} (h : PRow w ao n cap os) (k : Kept w w') : PRow w' ao n cap os :=
  ⟨h.len, h.room, h.most, fun hn => by
    obtain ⟨b, off, e, hc⟩ := h.cell hn
    exact ⟨b, off, e, fun i hi => ⟨k.cell (hc i hi).1, k.cell (hc i hi).2.1, k.cell (hc i hi).2.2⟩⟩⟩

/-- Join, at whatever numbers. -/
theorem joinZ_calls (w : World) (F : Nat → Prop) (p g n : Nat) (js : List Jn) (h : SetsAt w F p g n js) (u v : Int) :
    Calls Try.prog 34 #[.pointer (some ⟨p, 0, none⟩), .int .i64 u, .int .i64 v] w fun e w' => e = .returned (.tuple #[.bool (freshOf n js u v), .int .i64 (codeOf n u v)]) ∧
      ∃ F', SetsAt w' F' p g n (stepJ n js u v) ∧ Ch F w w' ∧ ∀ k, F' k → F k ∨ w.heap.size ≤ k := by
  by_cases c : okPair n u v
  · have c' := c
    obtain ⟨⟨a1, a2⟩, b1, b2⟩ := c'
    obtain ⟨x, rfl⟩ : ∃ x : Nat, u = (x : Int) := ⟨u.toNat, by omega⟩
    obtain ⟨y, rfl⟩ : ∃ y : Nat, v = (y : Int) := ⟨v.toNat, by omega⟩
    refine (join_calls w F p g n js h x y (by omega) (by omega)).mono ?_
    rintro e w' ⟨rfl, F', S, C, D⟩
    refine ⟨?_, F', ?_, C, D⟩
    · unfold freshOf codeOf; rw [if_pos c]; simp [c]
    · unfold stepJ; rw [if_pos c]; exact S
  · refine (joinBad_calls w F p g n js h u v ?_).mono ?_
    · unfold okPair at c; omega
    · rintro e w' ⟨rfl, rfl⟩
      refine ⟨?_, F, ?_, Ch.refl F w, fun k hk => .inl hk⟩
      · unfold freshOf codeOf; rw [if_neg c]; simp [c]
      · unfold stepJ; rw [if_neg c]; exact h
end Go.Proofs.Ytipkmnhkmnajoaa
