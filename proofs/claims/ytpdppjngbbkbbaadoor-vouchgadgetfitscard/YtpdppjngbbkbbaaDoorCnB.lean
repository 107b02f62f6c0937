/- The document's parts: the mathematics. Nothing of the program. -/
import Derived.Test.YtpdppjngbbkbbaaDoorCnA
namespace Go.Proofs.YtpdppjngbbkbbaaDoor
open Go.RowKit

theorem outs_lt {es : List Ed} {n : Nat} (hrg : ∀ e ∈ es, 0 ≤ e.f ∧ e.f < (n : Int) ∧ 0 ≤ e.t ∧ e.t < (n : Int)) : ∀ v, v < n → ∀ t ∈ outs es v, t < n := fun v _ t ht => by
  unfold outs at ht
  simp only [List.mem_map] at ht
  obtain ⟨z, hz, rfl⟩ := ht
  obtain ⟨e, he, -, rfl⟩ := nxt_mem hz
  have := hrg e he
  omega

section sat
open Classical

/-- What grows and can't go on growing once it stands still has stood still behind n steps. -/
theorem saturates {n : Nat} {S : Nat → Nat → Prop} (mono : ∀ t y, S t y → S (t + 1) y) (stop : ∀ t, (∀ y, y < n → S (t + 1) y → S t y) → ∀ y, y < n → S (t + 2) y → S (t + 1) y) (h0 : ∃ y, y < n ∧ S 0 y) : ∀ t y, y < n → S t y → S n y := by
  let cnt := fun t => ((List.range n).filter fun y => decide (S t y)).length
  have up : ∀ t k y, S t y → S (t + k) y := fun t k y h => by
    induction k with
    | zero => exact h
    | succ k ih => exact mono _ _ ih
  have main : ∀ t, (∃ s, s < t ∧ ∀ y, y < n → S (s + 1) y → S s y) ∨ t + 1 ≤ cnt t := by
    intro t
    induction t with
    | zero =>
      refine .inr ?_
      obtain ⟨y, hy, hs⟩ := h0
      have : y ∈ (List.range n).filter fun y => decide (S 0 y) := by simp [hy, hs]
      have := List.length_pos_of_mem this
      show 0 + 1 ≤ ((List.range n).filter fun y => decide (S 0 y)).length
      omega
    | succ t ih =>
      rcases ih with ⟨s, hs, h⟩ | ih
      · exact .inl ⟨s, by omega, h⟩
      · by_cases hsat : ∀ y, y < n → S (t + 1) y → S t y
        · exact .inl ⟨t, by omega, hsat⟩
        · have hex : ∃ y, y < n ∧ S (t + 1) y ∧ ¬ S t y := by
            apply Classical.byContradiction
            intro hno
            exact hsat (fun y hy h1 => Classical.byContradiction fun h2 => hno ⟨y, hy, h1, h2⟩)
          obtain ⟨y, hy, h1, h2⟩ := hex
          refine .inr ?_
          have := filter_lt (fun y => decide (S t y)) (fun y => decide (S (t + 1) y)) (List.range n) (fun x _ hx => by simpa using mono t x (by simpa using hx)) (a := y) (by simpa using hy) (by simpa using h2) (by simpa using h1)
          show t + 1 + 1 ≤ ((List.range n).filter fun y => decide (S (t + 1) y)).length
          have ih' : t + 1 ≤ ((List.range n).filter fun y => decide (S t y)).length := ih
          omega
  have le : cnt n ≤ n := by
    have := List.length_filter_le (fun y => decide (S n y)) (List.range n)
    simpa using this
  obtain ⟨s, hs, hsat⟩ : ∃ s, s < n ∧ ∀ y, y < n → S (s + 1) y → S s y := by
    rcases main n with h | h
    · exact h
    · omega
  have sat : ∀ k, ∀ y, y < n → S (s + k + 1) y → S (s + k) y := by
    intro k
    induction k with
    | zero => exact hsat
    | succ k ih => exact stop (s + k) ih
  have down : ∀ k y, y < n → S (s + k) y → S s y := by
    intro k
    induction k with
    | zero => intro y _ h; exact h
    | succ k ih => intro y hy h; exact ih y hy (sat k y hy h)
  intro t y hy h
  have hs2 : S s y := by
    by_cases c : t ≤ s
    · have := up t (s - t) y h
      rwa [show t + (s - t) = s by omega] at this
    · have := down (t - s) y hy (by rwa [show s + (t - s) = t by omega])
      exact this
  have := up s (n - s) y hs2
  rwa [show s + (n - s) = n by omega] at this
end sat

/-- A way of so many steps at most. -/
def Dst (L : Nat → List Nat) : Nat → Nat → Nat → Prop
  | 0, x, y => x = y
  | t + 1, x, y => ∃ z, Dst L t x z ∧ (z = y ∨ y ∈ L z)

theorem Dst.way {L : Nat → List Nat} : ∀ {t x y : Nat}, Dst L t x y → Way L x y
  | 0, x, y, h => by have : x = y := h; subst this; exact Way.refl x
  | t + 1, x, y, ⟨z, h, e⟩ => by
    rcases e with rfl | e
    · exact Dst.way h
    · exact (Dst.way h).step e
theorem dst_of_way {L : Nat → List Nat} {x y : Nat} (h : Way L x y) : ∃ t, Dst L t x y := by
  induction h with
  | refl => exact ⟨0, rfl⟩
  | step _ hx ih => obtain ⟨t, ht⟩ := ih; exact ⟨t + 1, _, ht, .inr hx⟩
theorem dst_n {L : Nat → List Nat} {n : Nat} (hL : ∀ v, v < n → ∀ t ∈ L v, t < n) {x y : Nat} (hx : x < n) (h : Way L x y) : Dst L n x y := by
  obtain ⟨t, ht⟩ := dst_of_way h
  have lt : ∀ t z, Dst L t x z → z < n := fun t z hz => hz.way.lt hL hx
  exact saturates (S := fun t y => Dst L t x y) (fun t y h => ⟨y, h, .inl rfl⟩) (fun t hs y hy ⟨z, hz, e⟩ => ⟨z, hs z (lt _ z hz) hz, e⟩) ⟨x, hx, rfl⟩ t y (h.lt hL hx) ht

/-- One edge gone over. -/
def rlx (f : Nat → Nat) (a b : Nat) : Nat → Nat := if f a < f b then (fun x => if x = b then f a else f x) else (fun x => if x = a then f b else f x)
/-- The first k edges gone over. -/
def swp (f : Nat → Nat) (es : List Ed) : Nat → Nat → Nat
  | 0 => f
  | k + 1 => rlx (swp f es k) (edAt es k).f.toNat (edAt es k).t.toNat
/-- All edges gone over so often. -/
def rnd (es : List Ed) : Nat → Nat → Nat
  | 0 => fun x => x
  | r + 1 => swp (rnd es r) es es.length

theorem rlx_le (f : Nat → Nat) (a b x : Nat) : rlx f a b x ≤ f x := by
  unfold rlx
  split
  · simp only
    split
    · rename_i c d; subst d; omega
    · exact Nat.le_refl _
  · simp only
    split
    · rename_i c d; subst d; omega
    · exact Nat.le_refl _
theorem rlx_a (f : Nat → Nat) (a b : Nat) : rlx f a b a ≤ f b ∧ rlx f a b b ≤ f a := by
  unfold rlx
  split
  · rename_i c
    simp only
    refine ⟨?_, by simp⟩
    split <;> omega
  · rename_i c
    simp only
    refine ⟨by simp, ?_⟩
    split <;> omega
theorem rlx_con {R : Nat → Nat → Prop} (trans : ∀ u v x, R u v → R v x → R u x) {f : Nat → Nat} {a b : Nat} (h1 : R a b) (h2 : R b a) (h : ∀ x, R x (f x)) (x : Nat) : R x (rlx f a b x) := by
  unfold rlx
  split
  · simp only
    split
    · rename_i c d; subst d; exact trans _ _ _ h2 (h a)
    · exact h x
  · simp only
    split
    · rename_i c d; subst d; exact trans _ _ _ h1 (h b)
    · exact h x
theorem swp_le (f : Nat → Nat) (es : List Ed) (k x : Nat) : swp f es k x ≤ f x := by
  induction k with
  | zero => exact Nat.le_refl _
  | succ k ih => exact Nat.le_trans (rlx_le _ _ _ _) ih
theorem swp_mono (f : Nat → Nat) (es : List Ed) (k m x : Nat) : swp f es (k + m) x ≤ swp f es k x := by
  induction m with
  | zero => exact Nat.le_refl _
  | succ m ih => exact Nat.le_trans (rlx_le (swp f es (k + m)) _ _ _) ih
theorem swp_edge (f : Nat → Nat) (es : List Ed) (k : Nat) (hk : k < es.length) : swp f es es.length (edAt es k).f.toNat ≤ f (edAt es k).t.toNat ∧ swp f es es.length (edAt es k).t.toNat ≤ f (edAt es k).f.toNat := by
  have h1 := rlx_a (swp f es k) (edAt es k).f.toNat (edAt es k).t.toNat
  have m : ∀ x, swp f es es.length x ≤ swp f es (k + 1) x := fun x => by
    have := swp_mono f es (k + 1) (es.length - (k + 1)) x
    rwa [show k + 1 + (es.length - (k + 1)) = es.length by omega] at this
  exact ⟨Nat.le_trans (m _) (Nat.le_trans h1.1 (swp_le f es k _)), Nat.le_trans (m _) (Nat.le_trans h1.2 (swp_le f es k _))⟩

section
variable {es : List Ed} {n : Nat} (hrg : ∀ e ∈ es, 0 ≤ e.f ∧ e.f < (n : Int) ∧ 0 ≤ e.t ∧ e.t < (n : Int))
include hrg

theorem both_way {k : Nat} (hk : k < es.length) : Way (outs (both es)) (edAt es k).f.toNat (edAt es k).t.toNat ∧ Way (outs (both es)) (edAt es k).t.toNat (edAt es k).f.toNat := by
  have hm : edAt es k ∈ es := by
    have : edAt es k = es[k] := by simp [edAt, List.getD, hk]
    rw [this]; exact List.getElem_mem hk
  have r := hrg _ hm
  have h1 : (edAt es k).t.toNat ∈ outs (both es) (edAt es k).f.toNat := mem_outs' (List.mem_append.2 (.inl hm)) (by omega) (by omega)
  exact ⟨(Way.refl _).step h1, (Way.refl _).step (both_symm hrg h1)⟩

theorem swp_con {f : Nat → Nat} (h : ∀ x, Way (outs (both es)) x (f x)) : ∀ k, k ≤ es.length → ∀ x, Way (outs (both es)) x (swp f es k x) := by
  intro k
  induction k with
  | zero => intro _; exact h
  | succ k ih =>
    intro hk
    exact rlx_con (fun u v x a b => a.trans b) (both_way hrg (by omega)).1 (both_way hrg (by omega)).2 (ih (by omega))
theorem rnd_con : ∀ t x, Way (outs (both es)) x (rnd es t x) := by
  intro t
  induction t with
  | zero => intro x; exact Way.refl x
  | succ t ih => exact swp_con hrg ih _ (Nat.le_refl _)
end

theorem rnd_dst (es : List Ed) : ∀ (t x y : Nat), Dst (outs (both es)) t x y → rnd es t y ≤ x
  | 0, x, y, h => by have : x = y := h; subst this; exact Nat.le_refl _
  | t + 1, x, y, ⟨z, h, e⟩ => by
    have ih := rnd_dst es t x z h
    show swp (rnd es t) es es.length y ≤ x
    rcases e with e | e
    · subst e; exact Nat.le_trans (swp_le _ _ _ _) ih
    · obtain ⟨d, hd, h1, h2⟩ := outs_mem e
      have key : ∀ d ∈ es, (d.f.toNat = z ∧ d.t.toNat = y ∨ d.t.toNat = z ∧ d.f.toNat = y) → swp (rnd es t) es es.length y ≤ x := fun d hd hc => by
        obtain ⟨k, hk, rfl⟩ := List.getElem_of_mem hd
        have ek : edAt es k = es[k] := by simp [edAt, List.getD, hk]
        have sw := swp_edge (rnd es t) es k hk
        rw [ek] at sw
        rcases hc with ⟨c1, c2⟩ | ⟨c1, c2⟩
        · rw [c1, c2] at sw; exact Nat.le_trans sw.2 ih
        · rw [c1, c2] at sw; exact Nat.le_trans sw.1 ih
      rcases List.mem_append.1 hd with hd | hd
      · exact key d hd (.inl ⟨by omega, h2⟩)
      · obtain ⟨d', hd', rfl⟩ := List.mem_map.1 hd
        exact key d' hd' (.inr ⟨by have : d'.t = (z : Int) := h1; omega, h2⟩)
theorem rnd_le (es : List Ed) : ∀ (t x : Nat), rnd es t x ≤ x
  | 0, _ => Nat.le_refl _
  | t + 1, x => Nat.le_trans (swp_le _ _ _ _) (rnd_le es t x)

/-- The least node of each class. -/
structure Least (n : Nat) (R : Nat → Nat → Prop) (l : Nat → Nat) : Prop where
  le : ∀ v, v < n → l v ≤ v
  rel : ∀ v, v < n → R (l v) v
  least : ∀ u v, u < n → v < n → R u v → l v ≤ u

theorem rnd_least {es : List Ed} {n : Nat} (hrg : ∀ e ∈ es, 0 ≤ e.f ∧ e.f < (n : Int) ∧ 0 ≤ e.t ∧ e.t < (n : Int)) : Least n (Way (outs (both es))) (rnd es n) :=
  ⟨fun v _ => rnd_le es n v, fun v _ => (rnd_con hrg n v).symm_of (fun _ _ h => both_symm hrg h), fun u v hu _ h => rnd_dst es n u v (dst_n (outs_lt (both_rg hrg)) hu h)⟩

/-- The document's numbers: what the first nodes have, and how many parts. -/
def dnr (l : Nat → Nat) : Nat → NSt
  | 0 => ⟨fun _ => 0, 0⟩
  | k + 1 => if l k = k then ⟨fun x => if x = k then (dnr l k).cnt else (dnr l k).nb x, (dnr l k).cnt + 1⟩ else ⟨fun x => if x = k then (dnr l k).nb (l k) else (dnr l k).nb x, (dnr l k).cnt⟩

theorem dnr_keep (l : Nat → Nat) (k m x : Nat) (hx : x < k) : (dnr l (k + m)).nb x = (dnr l k).nb x := by
  induction m with
  | zero => rfl
  | succ m ih =>
    have hne : ¬ x = k + m := by omega
    have e : (dnr l (k + m + 1)).nb x = (dnr l (k + m)).nb x := by
      show (if l (k + m) = k + m then _ else _ : NSt).nb x = _
      split
      · dsimp only; rw [if_neg hne]
      · dsimp only; rw [if_neg hne]
    exact e.trans ih

theorem dnr_num {n : Nat} {R : Nat → Nat → Prop} {l : Nat → Nat} (h : Least n R l) (symm : ∀ u v, u < n → v < n → R u v → R v u) (trans : ∀ u v x, u < n → v < n → x < n → R u v → R v x → R u x) : NumOf n R (dnr l n).nb (fun v => (dnr l v).cnt) := by
  have at1 : ∀ v, v < n → (dnr l n).nb v = (dnr l (v + 1)).nb v := fun v hv => by
    have := dnr_keep l (v + 1) (n - (v + 1)) v (by omega)
    rwa [show v + 1 + (n - (v + 1)) = n by omega] at this
  have low : ∀ v, v < n → (dnr l n).nb v = (dnr l n).nb (l v) := fun v hv => by
    by_cases e : l v = v
    · rw [e]
    · have hl := h.le v hv
      rw [at1 v hv, at1 (l v) (by omega)]
      have e1 : (dnr l (v + 1)).nb v = (dnr l v).nb (l v) := by
        show (if l v = v then _ else _ : NSt).nb v = _
        rw [if_neg e]; dsimp only; rw [if_pos rfl]
      have e2 := dnr_keep l (l v + 1) (v - (l v + 1)) (l v) (by omega)
      rw [show l v + 1 + (v - (l v + 1)) = v by omega] at e2
      rw [e1, e2]
  refine ⟨rfl, fun v hv hn => ?_, fun v hv u hu hr => ?_⟩
  · have e : l v = v := by
      have h1 := h.le v hv
      have h2 := h.rel v hv
      by_cases c : l v = v
      · exact c
      · exact absurd h2 (hn (l v) (by omega))
    refine ⟨?_, ?_⟩
    · rw [at1 v hv]
      show (if l v = v then _ else _ : NSt).nb v = _
      rw [if_pos e]; dsimp only; rw [if_pos rfl]
    · show (if l v = v then _ else _ : NSt).cnt = _
      rw [if_pos e]
  · have e : ¬ l v = v := by have := h.least u v (by omega) hv hr; omega
    have elu : l u = l v := by
      have h1 := h.rel v hv
      have h2 := h.rel u (by omega)
      have lv := h.le v hv
      have lu := h.le u (by omega)
      have a := h.least (l v) u (by omega) (by omega) (trans _ _ _ (by omega) hv (by omega) h1 (symm _ _ (by omega) hv hr))
      have b := h.least (l u) v (by omega) hv (trans _ _ _ (by omega) (by omega) hv h2 hr)
      omega
    refine ⟨by rw [low v hv, low u (by omega), elu], ?_⟩
    show (if l v = v then _ else _ : NSt).cnt = _
    rw [if_neg e]
end Go.Proofs.YtpdppjngbbkbbaaDoor
