/- The document's names: joins gone over again and again give the least node of each set. Nothing of the program. -/
import Derived.Test.YtipkmnhkmnajoaaUnG
namespace Go.Proofs.Ytipkmnhkmnajoaa
open Un
namespace Un

/-- One join gone over. -/
def relax (f : Nat → Nat) (a b : Nat) : Nat → Nat := if f a < f b then (fun x => if x = b then f a else f x) else (fun x => if x = a then f b else f x)
def prAt (P : List (Nat × Nat)) (k : Nat) : Nat × Nat := P.getD k (0, 0)
/-- The first k joins gone over. -/
def sweep (f : Nat → Nat) (P : List (Nat × Nat)) : Nat → Nat → Nat
  | 0 => f
  | k + 1 => relax (sweep f P k) (prAt P k).1 (prAt P k).2
/-- All joins gone over so often. -/
def rounds (P : List (Nat × Nat)) : Nat → Nat → Nat
  | 0 => fun x => x
  | r + 1 => sweep (rounds P r) P P.length

theorem relax_le (f : Nat → Nat) (a b x : Nat) : relax f a b x ≤ f x := by
  unfold relax
  split
  · simp only
    split
    · rename_i c d; subst d; omega
    · exact Nat.le_refl _
  · simp only
    split
    · rename_i c d; subst d; omega
    · exact Nat.le_refl _
theorem relax_a (f : Nat → Nat) (a b : Nat) : relax f a b a ≤ f b ∧ relax f a b b ≤ f a := by
  unfold relax
  split
  · rename_i c
    simp only
    refine ⟨?_, by simp⟩
    split <;> omega
  · rename_i c
    simp only
    refine ⟨by simp, ?_⟩
    split <;> omega
theorem relax_con {P : List (Nat × Nat)} {f : Nat → Nat} {a b : Nat} (hab : Con P a b) (h : ∀ x, Con P x (f x)) (x : Nat) : Con P x (relax f a b x) := by
  unfold relax
  split
  · simp only
    split
    · rename_i c d; subst d; exact hab.symm.trans (h a)
    · exact h x
  · simp only
    split
    · rename_i c d; subst d; exact hab.trans (h b)
    · exact h x

theorem prAt_mem {P : List (Nat × Nat)} {k : Nat} (h : k < P.length) : prAt P k ∈ P := by
  unfold prAt
  simp [List.getD, h]

theorem sweep_le (f : Nat → Nat) (P : List (Nat × Nat)) (k x : Nat) : sweep f P k x ≤ f x := by
  induction k with
  | zero => exact Nat.le_refl _
  | succ k ih => exact Nat.le_trans (relax_le _ _ _ _) ih
theorem sweep_mono (f : Nat → Nat) (P : List (Nat × Nat)) (k m x : Nat) : sweep f P (k + m) x ≤ sweep f P k x := by
  induction m with
  | zero => exact Nat.le_refl _
  | succ m ih => exact Nat.le_trans (relax_le (sweep f P (k + m)) _ _ _) ih
theorem sweep_con (f : Nat → Nat) (P : List (Nat × Nat)) (h : ∀ x, Con P x (f x)) (k : Nat) (hk : k ≤ P.length) : ∀ x, Con P x (sweep f P k x) := by
  induction k with
  | zero => exact h
  | succ k ih => exact relax_con (.base (prAt_mem (by omega))) (ih (by omega))
theorem sweep_edge (f : Nat → Nat) (P : List (Nat × Nat)) (k : Nat) (hk : k < P.length) : sweep f P P.length (prAt P k).1 ≤ f (prAt P k).2 ∧ sweep f P P.length (prAt P k).2 ≤ f (prAt P k).1 := by
  have h1 := relax_a (sweep f P k) (prAt P k).1 (prAt P k).2
  have m : ∀ x, sweep f P P.length x ≤ sweep f P (k + 1) x := fun x => by
    have := sweep_mono f P (k + 1) (P.length - (k + 1)) x
    rwa [show k + 1 + (P.length - (k + 1)) = P.length by omega] at this
  exact ⟨Nat.le_trans (m _) (Nat.le_trans h1.1 (sweep_le f P k _)), Nat.le_trans (m _) (Nat.le_trans h1.2 (sweep_le f P k _))⟩

/-- There is a way of so many joins at most. -/
def Dist (P : List (Nat × Nat)) : Nat → Nat → Nat → Prop
  | 0, x, y => x = y
  | t + 1, x, y => ∃ z, Dist P t x z ∧ (z = y ∨ (z, y) ∈ P ∨ (y, z) ∈ P)

theorem Dist.more {P : List (Nat × Nat)} {t x y : Nat} (h : Dist P t x y) (m : Nat) : Dist P (t + m) x y := by
  induction m with
  | zero => exact h
  | succ m ih => exact ⟨y, ih, .inl rfl⟩
theorem Dist.trans {P : List (Nat × Nat)} {s x z : Nat} (h : Dist P s x z) : ∀ {t y : Nat}, Dist P t z y → Dist P (s + t) x y
  | 0, y, k => by have : z = y := k; subst this; exact h
  | t + 1, y, ⟨q, k, e⟩ => ⟨q, Dist.trans h k, e⟩
theorem Dist.mono {P Q : List (Nat × Nat)} (hs : ∀ p ∈ P, p ∈ Q) : ∀ {t x y : Nat}, Dist P t x y → Dist Q t x y
  | 0, _, _, k => k
  | t + 1, _, _, ⟨q, k, e⟩ => ⟨q, Dist.mono hs k, by
    rcases e with e | e | e
    · exact .inl e
    · exact .inr (.inl (hs _ e))
    · exact .inr (.inr (hs _ e))⟩

theorem mem_prAt {P : List (Nat × Nat)} {p : Nat × Nat} (h : p ∈ P) : ∃ k, k < P.length ∧ prAt P k = p := by
  obtain ⟨k, hk, e⟩ := List.getElem_of_mem h
  exact ⟨k, hk, by simp [prAt, List.getD, hk, e]⟩

theorem rounds_dist (P : List (Nat × Nat)) : ∀ (t x y : Nat), Dist P t x y → rounds P t y ≤ x
  | 0, x, y, h => by have : x = y := h; subst this; exact Nat.le_refl _
  | t + 1, x, y, ⟨z, h, e⟩ => by
    have ih := rounds_dist P t x z h
    show sweep (rounds P t) P P.length y ≤ x
    rcases e with e | e | e
    · subst e; exact Nat.le_trans (sweep_le _ _ _ _) ih
    · obtain ⟨k, hk, ek⟩ := mem_prAt e
      have := (sweep_edge (rounds P t) P k hk).2
      rw [ek] at this
      exact Nat.le_trans this ih
    · obtain ⟨k, hk, ek⟩ := mem_prAt e
      have := (sweep_edge (rounds P t) P k hk).1
      rw [ek] at this
      exact Nat.le_trans this ih

theorem rounds_con (P : List (Nat × Nat)) : ∀ (t x : Nat), Con P x (rounds P t x)
  | 0, x => .refl x
  | t + 1, x => sweep_con _ P (rounds_con P t) _ (Nat.le_refl _) x
theorem rounds_le (P : List (Nat × Nat)) : ∀ (t x : Nat), rounds P t x ≤ x
  | 0, _ => Nat.le_refl _
  | t + 1, x => Nat.le_trans (sweep_le _ _ _ _) (rounds_le P t x)

/-- The document's joins and the history beside them. -/
def Par (n : Nat) : List (Nat × Nat) → List Jn → Prop
  | P, [] => P = []
  | P, j :: js => ∃ P' u v, P = P' ++ [(u, v)] ∧ Par n P' js ∧ u < n ∧ v < n ∧ (j.below = rt js u ∧ j.root = rt js v ∨ j.below = rt js v ∧ j.root = rt js u)

theorem Par.len {n : Nat} : ∀ {js : List Jn} {P : List (Nat × Nat)}, Par n P js → P.length = js.length
  | [], P, h => by have : P = [] := h; subst this; rfl
  | j :: js, P, ⟨P', u, v, e, h, _⟩ => by rw [e, List.length_append, h.len]; rfl
theorem Par.lt {n : Nat} : ∀ {js : List Jn} {P : List (Nat × Nat)}, Par n P js → ∀ p ∈ P, p.1 < n ∧ p.2 < n
  | [], P, h => by have : P = [] := h; subst this; intro p hp; cases hp
  | j :: js, P, ⟨P', u, v, e, h, hu, hv, _⟩ => by
    subst e
    intro p hp
    rcases List.mem_append.1 hp with t | t
    · exact h.lt p t
    · simp only [List.mem_singleton] at t; subst t; exact ⟨hu, hv⟩
theorem Par.cl {n : Nat} : ∀ {js : List Jn} {P : List (Nat × Nat)}, Par n P js → Good n js → Cl P js
  | [], P, h, _ => by have : P = [] := h; subst this; exact Cl.nil
  | j :: js, P, ⟨P', u, v, e, h, hu, hv, c⟩, g => by
    subst e
    exact (h.cl g.1).join g c (fun p => by simp)

theorem Par.dist {n : Nat} : ∀ {js : List Jn} {P : List (Nat × Nat)}, Par n P js → Good n js → ∀ x y, x < n → y < n → rt js x = rt js y → ∃ m, m + 1 = cnt js (rt js x) n ∧ Dist P m x y
  | [], P, h, _, x, y, hx, hy, e => by
    refine ⟨0, ?_, e⟩
    rw [cnt_nil]; rw [if_pos (show rt [] x < n from hx)]
  | j :: js, P, ⟨P', u, v, e, h, hu, hv, c⟩, g, x, y, hx, hy, exy => by
    subst e
    have gg := g
    obtain ⟨g1, hbn, hrn, hne, hb, hr, _⟩ := g
    have ih := h.dist g1
    have sub : ∀ p ∈ P', p ∈ P' ++ [(u, v)] := fun p hp => List.mem_append.2 (.inl hp)
    have huv : (u, v) ∈ P' ++ [(u, v)] := by simp
    have hx' : (if rt js x = j.below then j.root else rt js x) = (if rt js y = j.below then j.root else rt js y) := exy
    -- the sets of the two that were joined
    have cr := cnt_root j js hne n
    by_cases inx : rt js x = j.below ∨ rt js x = j.root
    · have er : rt (j :: js) x = j.root := by
        show (if rt js x = j.below then j.root else rt js x) = j.root
        rcases inx with t | t
        · rw [if_pos t]
        · rw [t, if_neg (Ne.symm hne)]
      have iny : rt js y = j.below ∨ rt js y = j.root := by
        have er2 : rt (j :: js) y = j.root := exy.symm.trans er
        have er3 : (if rt js y = j.below then j.root else rt js y) = j.root := er2
        by_cases t : rt js y = j.below
        · exact .inl t
        · rw [if_neg t] at er3; exact .inr er3
      rw [er, cr]
      -- how many there are on each side
      have pos : ∀ r a, a < n → rt js a = r → ∃ m, m + 1 = cnt js r n := fun r a ha e => by
        obtain ⟨m, hm, _⟩ := ih a a ha ha rfl
        rw [e] at hm; exact ⟨m, hm⟩
      obtain ⟨mr, hmr⟩ := pos j.root j.root hrn hr
      obtain ⟨mb, hmb⟩ := pos j.below j.below hbn hb
      by_cases same : rt js x = rt js y
      · obtain ⟨m, hm, hd⟩ := ih x y hx hy same
        have hm2 : m = mr ∨ m = mb := by
          rcases inx with t | t
          · rw [t] at hm; exact .inr (by omega)
          · rw [t] at hm; exact .inl (by omega)
        refine ⟨mr + 1 + mb, by omega, ?_⟩
        have hd2 := (hd.mono sub).more (mr + 1 + mb - m)
        rwa [show m + (mr + 1 + mb - m) = mr + 1 + mb by omega] at hd2
      · -- over the join
        have cross : ∀ a b, (a = u ∧ b = v ∨ a = v ∧ b = u) → rt js x = rt js a → rt js y = rt js b → ∃ m, m + 1 = cnt js j.root n + cnt js j.below n ∧ Dist (P' ++ [(u, v)]) m x y := fun a b hab ea eb => by
          have ha : a < n := by rcases hab with ⟨rfl, rfl⟩ | ⟨rfl, rfl⟩ <;> assumption
          have hbb : b < n := by rcases hab with ⟨rfl, rfl⟩ | ⟨rfl, rfl⟩ <;> assumption
          obtain ⟨m1, h1, d1⟩ := ih x a hx ha ea
          obtain ⟨m2, h2, d2⟩ := ih b y hbb hy eb.symm
          have st : Dist (P' ++ [(u, v)]) (m1 + 1) x b := ⟨a, d1.mono sub, .inr (by
            rcases hab with ⟨rfl, rfl⟩ | ⟨rfl, rfl⟩
            · exact .inl huv
            · exact .inr huv)⟩
          refine ⟨m1 + 1 + m2, ?_, st.trans (d2.mono sub)⟩
          rw [← eb] at h2
          rcases inx with t | t <;> rcases iny with s | s
          · exact absurd (t.trans s.symm) same
          · rw [t] at h1; rw [s] at h2; omega
          · rw [t] at h1; rw [s] at h2; omega
          · exact absurd (t.trans s.symm) same
        rcases c with ⟨c1, c2⟩ | ⟨c1, c2⟩
        · rcases inx with t | t <;> rcases iny with s | s
          · exact absurd (t.trans s.symm) same
          · exact cross u v (.inl ⟨rfl, rfl⟩) (t.trans c1) (s.trans c2)
          · exact cross v u (.inr ⟨rfl, rfl⟩) (t.trans c2) (s.trans c1)
          · exact absurd (t.trans s.symm) same
        · rcases inx with t | t <;> rcases iny with s | s
          · exact absurd (t.trans s.symm) same
          · exact cross v u (.inr ⟨rfl, rfl⟩) (t.trans c1) (s.trans c2)
          · exact cross u v (.inl ⟨rfl, rfl⟩) (t.trans c2) (s.trans c1)
          · exact absurd (t.trans s.symm) same
    · have ex : rt (j :: js) x = rt js x := by
        show (if rt js x = j.below then j.root else rt js x) = rt js x
        rw [if_neg (fun t => inx (.inl t))]
      have ey : rt js x = rt js y := by
        rw [if_neg (fun t => inx (.inl t))] at hx'
        by_cases t : rt js y = j.below
        · rw [if_pos t] at hx'; exact absurd (.inr hx') inx
        · rw [if_neg t] at hx'; exact hx'
      obtain ⟨m, hm, hd⟩ := ih x y hx hy ey
      refine ⟨m, ?_, hd.mono sub⟩
      rw [ex, cnt_other j js _ (fun t => inx (.inr t)) (fun t => inx (.inl t))]
      exact hm

theorem cnt_roots (js : List Jn) (r : Nat) (k : Nat) : cnt js r k + roots js k ≤ k + if r < k then 1 else 0 := by
  induction k with
  | zero => exact Nat.le_of_eq rfl
  | succ k ih =>
    have e1 : cnt js r (k + 1) = cnt js r k + if rt js k = r then 1 else 0 := rfl
    have e2 : roots js (k + 1) = roots js k + if rt js k = k then 1 else 0 := rfl
    rw [e1, e2]
    by_cases c1 : rt js k = r
    · by_cases c2 : rt js k = k
      · rw [if_pos c1, if_pos c2, if_pos (by omega)]
        have : ¬ r < k := by omega
        rw [if_neg this] at ih
        omega
      · rw [if_pos c1, if_neg c2]; split at ih <;> split <;> omega
    · by_cases c2 : rt js k = k
      · rw [if_neg c1, if_pos c2]; split at ih <;> split <;> omega
      · rw [if_neg c1, if_neg c2]; split at ih <;> split <;> omega

/-- The document's names are the least nodes. -/
theorem doc_names {n : Nat} {js : List Jn} {P : List (Nat × Nat)} (h : Par n P js) (g : Good n js) {y : Nat} (hy : y < n) : rounds P (P.length + 1) y = nm js y := by
  obtain ⟨a1, a2, a3⟩ := nm_facts g hy
  have hcl := h.cl g
  refine Nat.le_antisymm ?_ ?_
  · obtain ⟨m, hm, hd⟩ := h.dist g (nm js y) y a1 hy a2
    have c1 := cnt_roots js (rt js (nm js y)) n
    have c2 := roots_len g
    have c3 := h.len
    have hle : m ≤ P.length + 1 := by split at c1 <;> omega
    have := hd.more (P.length + 1 - m)
    rw [show m + (P.length + 1 - m) = P.length + 1 by omega] at this
    exact rounds_dist P _ _ _ this
  · exact a3 _ (Nat.lt_of_le_of_lt (rounds_le P _ y) hy) ((hcl _ _).2 (rounds_con P _ y).symm)
end Un
end Go.Proofs.Ytipkmnhkmnajoaa
