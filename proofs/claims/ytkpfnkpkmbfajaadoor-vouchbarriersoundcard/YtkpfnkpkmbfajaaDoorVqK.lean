/- VouchCoverSound: the mathematics. -/
import Derived.Test.YtkpfnkpkmbfajaaDoorVqJ
namespace Go.Proofs.YtkpfnkpkmbfajaaDoor
open Go.RowKit

/-- How often a number stands among the first k. -/
theorem hits_bd (x : List Int) (f : Int) (k : Nat) : 0 ≤ sm (fun i => if f = zAt x i then 1 else 0) k := by
  induction k with
  | zero => exact Int.le_refl _
  | succ k ih => rw [sm_succ]; split <;> omega
theorem hits_in {x : List Int} {f : Int} {k : Nat} (hf : 0 ≤ f) (h : inTo x k f.toNat = true) : 1 ≤ sm (fun i => if f = zAt x i then 1 else 0) k := by
  obtain ⟨j, hj, e⟩ := inTo_iff.1 h
  have ef : f = zAt x j := by omega
  have aux : ∀ k, j < k → 1 ≤ sm (fun i => if f = zAt x i then 1 else 0) k := by
    intro k
    induction k with
    | zero => intro t; omega
    | succ k ih =>
      intro t
      rw [sm_succ]
      by_cases e2 : j = k
      · subst e2
        have := hits_bd x f j
        rw [if_pos ef]; omega
      · have := ih (by omega)
        split <;> omega
  exact aux k hj

/-- No matching has more edges than a cover has nodes. -/
theorem cover_le {es : List Ed} {N n : Nat} {x : List Int} {lx : Nat} (RG : Right N n es) (ris : RiseTo x (N : Int) lx) (cov : ∀ i, i < n → CovE es x lx i) {o : List Int} {lo : Nat} (ok : MatchOk es n o lo) : (lo : Int) ≤ (lx : Int) := by
  have tk := (tak_one (n := n) (N := N) (c := o) (L := lo) RG.ends).2 ok
  have up : sm (fun i => takTo es o lo (zAt x i).toNat) lx ≤ sm (fun _ => 1) lx := sm_le fun i hi => by
    have r := ris.rng hi
    have t := tk.2.2 (zAt x i).toNat (by omega)
    rwa [onesTo_at (by omega)] at t
  have one : ∀ k : Nat, sm (fun _ => (1 : Int)) k = (k : Int) := by
    intro k
    induction k with
    | zero => rfl
    | succ k ih => rw [sm_succ, ih]; omega
  rw [one] at up
  have dn : ∀ k : Nat, k ≤ lo → (k : Int) ≤ sm (fun i => takTo es o k (zAt x i).toNat) lx := by
    intro k
    induction k with
    | zero =>
      intro _
      have : sm (fun i => takTo es o 0 (zAt x i).toNat) lx = sm (fun _ => 0) lx := sm_congr fun i _ => rfl
      rw [this, sm_zero]; exact Int.le_refl _
    | succ k ih =>
      intro hk
      have i := ih (by omega)
      obtain ⟨r1, r2⟩ := ok.1.rng (j := k) (by omega)
      obtain ⟨e1, e2, e3, e4⟩ := RG.ends (zAt o k).toNat (by omega)
      have step : sm (fun i => takTo es o (k + 1) (zAt x i).toNat) lx = (sm (fun i => takTo es o k (zAt x i).toNat) lx + sm (fun i => if frm es o k = zAt x i then 1 else 0) lx) + sm (fun i => if tto es o k = zAt x i then 1 else 0) lx := by
        rw [← sm_add, ← sm_add]
        refine sm_congr fun i hi => ?_
        have r := ris.rng hi
        rw [takTo_succ, show (((zAt x i).toNat : Nat) : Int) = zAt x i by omega]
      have a := hits_bd x (frm es o k) lx
      have b := hits_bd x (tto es o k) lx
      have hne := (ok.2 k (by omega)).1
      rcases cov (zAt o k).toNat (by omega) with c | c | c
      · exact absurd (by unfold lp at c; rw [beq_iff_eq] at c; exact c) hne
      · have := hits_in (f := frm es o k) e1 c
        rw [step]; omega
      · have := hits_in (f := tto es o k) e3 c
        rw [step]; omega
  have := dn lo (Nat.le_refl _)
  omega

/-- No matching costs more than the potentials are together. -/
theorem pots_le {es : List Ed} {N n : Nat} {p : List Int} (RG : Right N n es) (pos : ∀ v, v < N → 0 ≤ zAt p v) (hv : ∀ i, i < n → HvyE es p i) {o : List Int} {lo : Nat} (ok : MatchOk es n o lo) : csum es o lo ≤ sm (zAt p) N := by
  have tk := (tak_one (n := n) (N := N) (c := o) (L := lo) RG.ends).2 ok
  have up : sm (fun v => zAt p v * takTo es o lo v) N ≤ sm (zAt p) N := sm_le fun v hv => by
    have t := tk.2.2 v hv
    rw [onesTo_at hv] at t
    have z := (takTo_bd es o lo v).1
    have q := pos v hv
    rcases (by omega : takTo es o lo v = 0 ∨ takTo es o lo v = 1) with e | e
    · rw [e]; omega
    · rw [e]; omega
  have dn : ∀ k : Nat, k ≤ lo → csum es o k ≤ sm (fun v => zAt p v * takTo es o k v) N := by
    intro k
    induction k with
    | zero =>
      intro _
      have : sm (fun v => zAt p v * takTo es o 0 v) N = sm (fun _ => 0) N := sm_congr fun v _ => by show zAt p v * 0 = 0; omega
      rw [this, sm_zero]; exact Int.le_refl _
    | succ k ih =>
      intro hk
      have i := ih (by omega)
      obtain ⟨r1, r2⟩ := ok.1.rng (j := k) (by omega)
      obtain ⟨e1, e2, e3, e4⟩ := RG.ends (zAt o k).toNat (by omega)
      have step : sm (fun v => zAt p v * takTo es o (k + 1) v) N = (sm (fun v => zAt p v * takTo es o k v) N + sm (fun v => if frm es o k = (v : Int) then zAt p v else 0) N) + sm (fun v => if tto es o k = (v : Int) then zAt p v else 0) N := by
        rw [← sm_add, ← sm_add]
        refine sm_congr fun v _ => ?_
        rw [takTo_succ, Int.mul_add, Int.mul_add]
        congr 1
        · congr 1
          split
          · rw [Int.mul_one]
          · rw [Int.mul_zero]
        · split
          · rw [Int.mul_one]
          · rw [Int.mul_zero]
      rw [sm_pick (zAt p) (frm es o k) N e1 e2, sm_pick (zAt p) (tto es o k) N e3 e4] at step
      have cs : csum es o (k + 1) = csum es o k + (edAt es (zAt o k).toNat).k := rfl
      have hne := (ok.2 k (by omega)).1
      rcases hv (zAt o k).toNat (by omega) with c | c
      · exact absurd (by unfold lp at c; rw [beq_iff_eq] at c; exact c) hne
      · have c : (edAt es (zAt o k).toNat).k ≤ zAt p (frm es o k).toNat + zAt p (tto es o k).toNat := c
        rw [step, cs]; omega
  have := dn lo (Nat.le_refl _)
  omega
end Go.Proofs.YtkpfnkpkmbfajaaDoor
