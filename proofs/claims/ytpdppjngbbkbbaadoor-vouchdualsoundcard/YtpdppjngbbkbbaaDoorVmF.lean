/- What weights of nodes and of sets prove: no matching of all nodes costs less. -/
import Derived.Test.YtpdppjngbbkbbaaDoorVmA
import Derived.Test.YtpdppjngbbkbbaaDoorVmG
namespace Go.Proofs.YtpdppjngbbkbbaaDoor
open Go.RowKit

/-- How many of the first k edges lie within a set. -/
def innTo (es : List Ed) (ss : Sets) (o : List Int) (i k : Nat) : Int := sm (fun j => if hasIn ss i (frm es o j).toNat && hasIn ss i (tto es o j).toNat then 1 else 0) k

theorem takTo_add {es : List Ed} {N : Nat} {o : List Int} {k : Nat} (p : Nat → Int) (e1 : 0 ≤ frm es o k) (e2 : frm es o k < (N : Int)) (e3 : 0 ≤ tto es o k) (e4 : tto es o k < (N : Int)) : sm (fun v => p v * takTo es o (k + 1) v) N = (sm (fun v => p v * takTo es o k v) N + p (frm es o k).toNat) + p (tto es o k).toNat := by
  have step : sm (fun v => p v * takTo es o (k + 1) v) N = (sm (fun v => p v * takTo es o k v) N + sm (fun v => if frm es o k = (v : Int) then p v else 0) N) + sm (fun v => if tto es o k = (v : Int) then p v else 0) N := by
    rw [← sm_add, ← sm_add]
    refine sm_congr fun v _ => ?_
    rw [takTo_succ, Int.mul_add, Int.mul_add]
    congr 1
    · congr 1
      split
      · rw [Int.mul_one]
      · rw [Int.mul_zero]
    · split
      · rw [Int.mul_one]
      · rw [Int.mul_zero]
  rw [sm_pick p (frm es o k) N e1 e2, sm_pick p (tto es o k) N e3 e4] at step
  exact step

/-- A sum of what is not below 0 that is 0: each is. -/
theorem sm_all0 {f : Nat → Int} : ∀ N, (∀ v, v < N → 0 ≤ f v) → sm f N ≤ 0 → ∀ v, v < N → f v = 0 := by
  intro N
  induction N with
  | zero => intro _ _ v hv; omega
  | succ N ih =>
    intro hp hs v hv
    rw [sm_succ] at hs
    have h0 : 0 ≤ sm f N := by
      have := sm_le (f := fun _ => (0 : Int)) (g := f) (k := N) fun v hv => hp v (by omega)
      rwa [sm_zero] at this
    have h1 := hp N (by omega)
    by_cases e : v = N
    · subst e; omega
    · exact ih (fun v hv => hp v (by omega)) (by omega) v (by omega)

theorem all_ones (N : Nat) : sm (fun _ => (1 : Int)) N = (N : Int) := by
  induction N with
  | zero => rfl
  | succ k ih => rw [sm_succ, ih]; omega

/-- A matching of all nodes has an edge at each. -/
theorem perfect_ones {es : List Ed} {N n : Nat} (RG : Right N n es) {o : List Int} {lo : Nat} (ok : MatchOk es n o lo) (hp : 2 * lo = N) : ∀ v, v < N → takTo es o lo v = 1 := by
  have tk := (tak_one (n := n) (N := N) (c := o) (L := lo) RG.ends).2 ok
  have cnt : ∀ k, k ≤ lo → sm (fun v => 1 * takTo es o k v) N = 2 * (k : Int) := by
    intro k
    induction k with
    | zero =>
      intro _
      have : sm (fun v => 1 * takTo es o 0 v) N = sm (fun _ => 0) N := sm_congr fun v _ => rfl
      rw [this, sm_zero]; rfl
    | succ k ih =>
      intro hk
      obtain ⟨r1, r2⟩ := ok.1.rng (j := k) (by omega)
      obtain ⟨e1, e2, e3, e4⟩ := RG.ends (zAt o k).toNat (by omega)
      rw [takTo_add (fun _ => 1) e1 e2 e3 e4, ih (by omega)]
      omega
  have c := cnt lo (Nat.le_refl _)
  have le1 : ∀ v, v < N → takTo es o lo v ≤ 1 := fun v hv => by
    have t := tk.2.2 v hv
    rwa [onesTo_at hv] at t
  have z := sm_all0 (f := fun v => 1 - takTo es o lo v) N (fun v hv => by have := le1 v hv; omega) (by
    have s := sm_sub (fun _ => (1 : Int)) (fun v => 1 * takTo es o lo v) N
    rw [all_ones, c] at s
    have e : sm (fun v => 1 - takTo es o lo v) N = sm (fun v => (1 : Int) - 1 * takTo es o lo v) N := sm_congr fun v _ => by omega
    rw [e, s]; omega)
  intro v hv
  have := z v hv
  omega

/-- Within a set lie no more edges than half of its nodes. -/
theorem inn_le {es : List Ed} {N n : Nat} (RG : Right N n es) {ss : Sets} {i : Nat} (hs : SetOk N (setAt ss i)) {o : List Int} {lo : Nat} (ok : MatchOk es n o lo) : 2 * innTo es ss o i lo ≤ ((setAt ss i).1.length : Int) := by
  obtain ⟨x, hx⟩ : ∃ x, (setAt ss i).1 = x := ⟨_, rfl⟩
  have ris : RiseTo x (N : Int) x.length := by rw [← hx]; exact hs.1
  have tk := (tak_one (n := n) (N := N) (c := o) (L := lo) RG.ends).2 ok
  have up : sm (fun j => takTo es o lo (zAt x j).toNat) x.length ≤ sm (fun _ => 1) x.length := sm_le fun j hj => by
    have r := ris.rng hj
    have t := tk.2.2 (zAt x j).toNat (by omega)
    rwa [onesTo_at (by omega)] at t
  rw [all_ones] at up
  have dn : ∀ k : Nat, k ≤ lo → 2 * innTo es ss o i k ≤ sm (fun j => takTo es o k (zAt x j).toNat) x.length := by
    intro k
    induction k with
    | zero =>
      intro _
      have : sm (fun j => takTo es o 0 (zAt x j).toNat) x.length = sm (fun _ => 0) x.length := sm_congr fun j _ => rfl
      rw [this, sm_zero]; exact Int.le_refl _
    | succ k ih =>
      intro hk
      have ih := ih (by omega)
      obtain ⟨r1, r2⟩ := ok.1.rng (j := k) (by omega)
      obtain ⟨e1, e2, e3, e4⟩ := RG.ends (zAt o k).toNat (by omega)
      have step : sm (fun j => takTo es o (k + 1) (zAt x j).toNat) x.length = (sm (fun j => takTo es o k (zAt x j).toNat) x.length + sm (fun j => if frm es o k = zAt x j then 1 else 0) x.length) + sm (fun j => if tto es o k = zAt x j then 1 else 0) x.length := by
        rw [← sm_add, ← sm_add]
        refine sm_congr fun j hj => ?_
        have r := ris.rng hj
        rw [takTo_succ, show (((zAt x j).toNat : Nat) : Int) = zAt x j by omega]
      have a := hits_bd x (frm es o k) x.length
      have b := hits_bd x (tto es o k) x.length
      have inn : innTo es ss o i (k + 1) = innTo es ss o i k + if hasIn ss i (frm es o k).toNat && hasIn ss i (tto es o k).toNat then 1 else 0 := rfl
      rw [inn, step]
      by_cases hb : (hasIn ss i (frm es o k).toNat && hasIn ss i (tto es o k).toNat) = true
      · rw [if_pos hb]
        unfold hasIn at hb
        rw [hx, Bool.and_eq_true] at hb
        have p := hits_in (f := frm es o k) e1 hb.1
        have q := hits_in (f := tto es o k) e3 hb.2
        omega
      · rw [if_neg hb]; omega
  have := dn lo (Nat.le_refl _)
  rw [hx]
  omega

/-- No matching of all nodes costs less than half of what weights are together. -/
theorem dual_le {es : List Ed} {N n : Nat} {Y : List Int} {ss : Sets} {ns : Nat} (RG : Right N n es) (hW : WtsOk Y N ss ns N) (hP : ∀ i, i < n → lp es i = true ∨ pairOf Y ss ns (edAt es i).f.toNat (edAt es i).t.toNat ≤ 2 * (edAt es i).k) {o : List Int} {lo : Nat} (ok : MatchOk es n o lo) (hp : 2 * lo = N) : worthOf Y N ss ns ≤ 2 * csum es o lo := by
  have one := perfect_ones RG ok hp
  have dn : ∀ k : Nat, k ≤ lo → sm (fun v => zAt Y v * takTo es o k v) N - sm (fun i => (setAt ss i).2 * innTo es ss o i k) ns ≤ 2 * csum es o k := by
    intro k
    induction k with
    | zero =>
      intro _
      have a : sm (fun v => zAt Y v * takTo es o 0 v) N = sm (fun _ => 0) N := sm_congr fun v _ => by show zAt Y v * 0 = 0; omega
      have b : sm (fun i => (setAt ss i).2 * innTo es ss o i 0) ns = sm (fun _ => 0) ns := sm_congr fun i _ => by show (setAt ss i).2 * 0 = 0; omega
      rw [a, b, sm_zero, sm_zero]; exact Int.le_refl _
    | succ k ih =>
      intro hk
      have ih := ih (by omega)
      obtain ⟨r1, r2⟩ := ok.1.rng (j := k) (by omega)
      obtain ⟨e1, e2, e3, e4⟩ := RG.ends (zAt o k).toNat (by omega)
      have hne := (ok.2 k (by omega)).1
      have st := takTo_add (N := N) (zAt Y) (o := o) (k := k) e1 e2 e3 e4
      have ss1 : sm (fun i => (setAt ss i).2 * innTo es ss o i (k + 1)) ns = sm (fun i => (setAt ss i).2 * innTo es ss o i k) ns + sm (fun i => if hasIn ss i (frm es o k).toNat && hasIn ss i (tto es o k).toNat then (setAt ss i).2 else 0) ns := by
        rw [← sm_add]
        refine sm_congr fun i _ => ?_
        have inn : innTo es ss o i (k + 1) = innTo es ss o i k + if hasIn ss i (frm es o k).toNat && hasIn ss i (tto es o k).toNat then 1 else 0 := rfl
        rw [inn, Int.mul_add]
        congr 1
        split
        · rw [Int.mul_one]
        · rw [Int.mul_zero]
      have cs : csum es o (k + 1) = csum es o k + (edAt es (zAt o k).toNat).k := rfl
      rcases hP (zAt o k).toNat (by omega) with c | c
      · exact absurd (by unfold lp at c; rw [beq_iff_eq] at c; exact c) hne
      · have c : (zAt Y (frm es o k).toNat + zAt Y (tto es o k).toNat) - sm (fun i => if hasIn ss i (frm es o k).toNat && hasIn ss i (tto es o k).toNat then (setAt ss i).2 else 0) ns ≤ 2 * (edAt es (zAt o k).toNat).k := c
        rw [st, ss1, cs]; omega
  have d := dn lo (Nat.le_refl _)
  have a : sm (fun v => zAt Y v * takTo es o lo v) N = sm (zAt Y) N := sm_congr fun v hv => by rw [one v hv, Int.mul_one]
  have b : sm (fun i => (setAt ss i).2 * innTo es ss o i lo) ns ≤ sm (fun i => setHalf (setAt ss i)) ns := sm_le fun i hi => by
    have l := inn_le RG (hW.2.2 i hi) ok
    have z := (hW.2.2 i hi).2.2.1
    unfold setHalf
    exact Int.mul_le_mul_of_nonneg_left (by omega) z
  rw [a] at d
  unfold worthOf
  omega
end Go.Proofs.YtpdppjngbbkbbaaDoor
