/- VouchBarrierSound: the mathematics. -/
import Derived.Test.YtkpfnkpkmbfajaaDoorVqK
namespace Go.Proofs.YtkpfnkpkmbfajaaDoor
open Go.RowKit

theorem sm_swap (f : Nat → Nat → Int) (a b : Nat) : sm (fun r => sm (fun v => f r v) b) a = sm (fun v => sm (fun r => f r v) a) b := by
  induction a with
  | zero =>
    show (0 : Int) = _
    rw [show (fun v => sm (fun r => f r v) 0) = fun _ => (0 : Int) from rfl, sm_zero]
  | succ a ih =>
    rw [sm_succ, ih, ← sm_add]
    exact sm_congr fun v _ => rfl
theorem sm_one (k : Nat) : sm (fun _ => (1 : Int)) k = (k : Int) := by
  induction k with
  | zero => rfl
  | succ k ih => rw [sm_succ, ih]; omega

/-- Is an edge beside a set? -/
def offE (es : List Ed) (o : List Int) (S : Nat → Bool) (j : Nat) : Bool := !S (frm es o j).toNat && !S (tto es o j).toNat
/-- How many ends of edges beside the set are at a node. -/
def offTo (es : List Ed) (o : List Int) (S : Nat → Bool) : Nat → Nat → Int
  | 0, _ => 0
  | k + 1, v => if offE es o S k then (offTo es o S k v + if frm es o k = (v : Int) then 1 else 0) + (if tto es o k = (v : Int) then 1 else 0) else offTo es o S k v
theorem offTo_succ (es : List Ed) (o : List Int) (S : Nat → Bool) (k v : Nat) : offTo es o S (k + 1) v = if offE es o S k then (offTo es o S k v + if frm es o k = (v : Int) then 1 else 0) + (if tto es o k = (v : Int) then 1 else 0) else offTo es o S k v := rfl
/-- How many edges are beside the set. -/
def offN (es : List Ed) (o : List Int) (S : Nat → Bool) (k : Nat) : Int := sm (fun j => if offE es o S j then 1 else 0) k
theorem offTo_bd (es : List Ed) (o : List Int) (S : Nat → Bool) (k v : Nat) : 0 ≤ offTo es o S k v ∧ offTo es o S k v ≤ takTo es o k v := by
  induction k with
  | zero => exact ⟨Int.le_refl _, Int.le_refl _⟩
  | succ k ih =>
    rw [offTo_succ, takTo_succ]
    split <;> split <;> split <;> omega

/-- One edge more, weighed: what its two ends weigh is added. -/
theorem sm_edge {N : Nat} (p u : Nat → Int) (f t : Int) (hf : 0 ≤ f ∧ f < (N : Int)) (ht : 0 ≤ t ∧ t < (N : Int)) :
    sm (fun v => p v * ((u v + if f = (v : Int) then 1 else 0) + if t = (v : Int) then 1 else 0)) N = sm (fun v => p v * u v) N + p f.toNat + p t.toNat := by
  have e : sm (fun v => p v * ((u v + if f = (v : Int) then 1 else 0) + if t = (v : Int) then 1 else 0)) N = (sm (fun v => p v * u v) N + sm (fun v => if f = (v : Int) then p v else 0) N) + sm (fun v => if t = (v : Int) then p v else 0) N := by
    rw [← sm_add, ← sm_add]
    refine sm_congr fun v _ => ?_
    rw [Int.mul_add, Int.mul_add]
    congr 1
    · congr 1
      split
      · rw [Int.mul_one]
      · rw [Int.mul_zero]
    · split
      · rw [Int.mul_one]
      · rw [Int.mul_zero]
  rw [e, sm_pick p f N hf.1 hf.2, sm_pick p t N ht.1 ht.2]

section
variable {es : List Ed} {N n : Nat} (RG : Right N n es) {o : List Int} {lo : Nat} (ok : MatchOk es n o lo) (S : Nat → Bool)
include RG ok

theorem ends_at {k : Nat} (hk : k < lo) : (0 ≤ frm es o k ∧ frm es o k < (N : Int)) ∧ (0 ≤ tto es o k ∧ tto es o k < (N : Int)) ∧ (zAt o k).toNat < es.length := by
  obtain ⟨r1, r2⟩ := ok.1.rng hk
  obtain ⟨e1, e2, e3, e4⟩ := RG.ends (zAt o k).toNat (by omega)
  have := RG.len
  exact ⟨⟨e1, e2⟩, ⟨e3, e4⟩, by omega⟩

theorem off_twice : ∀ k, k ≤ lo → sm (fun v => (if S v then 0 else 1) * offTo es o S k v) N = 2 * offN es o S k := by
  intro k
  induction k with
  | zero =>
    intro _
    rw [show (fun v => (if S v then (0 : Int) else 1) * offTo es o S 0 v) = fun _ => (0 : Int) from funext fun v => by show _ * (0 : Int) = 0; omega, sm_zero]
    rfl
  | succ k ih =>
    intro hk
    have i := ih (by omega)
    obtain ⟨hf, ht, -⟩ := ends_at RG ok (k := k) (by omega)
    have sn : offN es o S (k + 1) = offN es o S k + if offE es o S k then 1 else 0 := rfl
    by_cases hoff : offE es o S k = true
    · have e := sm_edge (N := N) (fun v => if S v then 0 else 1) (offTo es o S k) (frm es o k) (tto es o k) hf ht
      have c : sm (fun v => (if S v then 0 else 1) * offTo es o S (k + 1) v) N = sm (fun v => (if S v then 0 else 1) * ((offTo es o S k v + if frm es o k = (v : Int) then 1 else 0) + if tto es o k = (v : Int) then 1 else 0)) N := sm_congr fun v _ => by rw [offTo_succ, if_pos hoff]
      have h := hoff
      unfold offE at h
      rw [Bool.and_eq_true, Bool.not_eq_true', Bool.not_eq_true'] at h
      rw [c, e, i, sn, if_pos hoff, h.1, h.2]
      simp only [Bool.false_eq_true, if_false]
      omega
    · have c : sm (fun v => (if S v then 0 else 1) * offTo es o S (k + 1) v) N = sm (fun v => (if S v then 0 else 1) * offTo es o S k v) N := sm_congr fun v _ => by rw [offTo_succ, if_neg hoff]
      rw [c, i, sn, if_neg hoff]
      omega

theorem touch_ge : ∀ k, k ≤ lo → (k : Int) - offN es o S k ≤ sm (fun v => (if S v then 1 else 0) * takTo es o k v) N := by
  intro k
  induction k with
  | zero =>
    intro _
    rw [show (fun v => (if S v then (1 : Int) else 0) * takTo es o 0 v) = fun _ => (0 : Int) from funext fun v => by show _ * (0 : Int) = 0; omega, sm_zero]
    show ((0 : Nat) : Int) - 0 ≤ 0
    omega
  | succ k ih =>
    intro hk
    have i := ih (by omega)
    obtain ⟨hf, ht, -⟩ := ends_at RG ok (k := k) (by omega)
    have sn : offN es o S (k + 1) = offN es o S k + if offE es o S k then 1 else 0 := rfl
    have e := sm_edge (N := N) (fun v => if S v then 1 else 0) (takTo es o k) (frm es o k) (tto es o k) hf ht
    have c : sm (fun v => (if S v then 1 else 0) * takTo es o (k + 1) v) N = sm (fun v => (if S v then 1 else 0) * ((takTo es o k v + if frm es o k = (v : Int) then 1 else 0) + if tto es o k = (v : Int) then 1 else 0)) N := sm_congr fun v _ => by rw [takTo_succ]
    rw [c, e, sn]
    cases hf' : S (frm es o k).toNat <;> cases ht' : S (tto es o k).toNat <;> (unfold offE; simp only [hf', ht']; simp; omega)

theorem hang_edge {k : Nat} (hk : k < lo) (h : offE es o S k = true) : Hang es S (frm es o k).toNat (tto es o k).toNat := by
  obtain ⟨hf, ht, hl⟩ := ends_at RG ok hk
  unfold offE at h
  rw [Bool.and_eq_true, Bool.not_eq_true', Bool.not_eq_true'] at h
  have hm : edAt es (zAt o k).toNat ∈ rest es S := rest_mem.2 ⟨mem_at hl, h.1, h.2⟩
  refine (Way.refl _).step ?_
  refine mem_outs' (e := edAt es (zAt o k).toNat) (List.mem_append_left _ hm) ?_ ?_
  · show frm es o k = _; omega
  · show tto es o k = _; omega

theorem off_even (r : Nat) : ∀ k, k ≤ lo → ∃ q : Int, sm (fun v => ind (Hang es S r v) * offTo es o S k v) N = 2 * q := by
  have hrg := RG.mem
  intro k
  induction k with
  | zero =>
    intro _
    exact ⟨0, by rw [show (fun v => ind (Hang es S r v) * offTo es o S 0 v) = fun _ => (0 : Int) from funext fun v => by show _ * (0 : Int) = 0; omega, sm_zero]; rfl⟩
  | succ k ih =>
    intro hk
    obtain ⟨q, i⟩ := ih (by omega)
    obtain ⟨hf, ht, -⟩ := ends_at RG ok (k := k) (by omega)
    by_cases hoff : offE es o S k = true
    · have e := sm_edge (N := N) (fun v => ind (Hang es S r v)) (offTo es o S k) (frm es o k) (tto es o k) hf ht
      have c : sm (fun v => ind (Hang es S r v) * offTo es o S (k + 1) v) N = sm (fun v => ind (Hang es S r v) * ((offTo es o S k v + if frm es o k = (v : Int) then 1 else 0) + if tto es o k = (v : Int) then 1 else 0)) N := sm_congr fun v _ => by rw [offTo_succ, if_pos hoff]
      have he := hang_edge RG ok S (k := k) (by omega) hoff
      have hp : ind (Hang es S r (frm es o k).toNat) = ind (Hang es S r (tto es o k).toNat) := ind_congr ⟨fun t => t.trans he, fun t => t.trans (he.symm hrg)⟩
      exact ⟨q + ind (Hang es S r (tto es o k).toNat), by rw [c, e, i, hp]; omega⟩
    · have c : sm (fun v => ind (Hang es S r v) * offTo es o S (k + 1) v) N = sm (fun v => ind (Hang es S r v) * offTo es o S k v) N := sm_congr fun v _ => by rw [offTo_succ, if_neg hoff]
      exact ⟨q, by rw [c, i]⟩

/-- What is left at a node beside the set. -/
theorem odd_le : oddTo es S N N ≤ sm (fun v => if S v then 0 else 1 - offTo es o S lo v) N := by
  have hrg := RG.mem
  have tk := (tak_one (n := n) (N := N) (c := o) (L := lo) RG.ends).2 ok
  have dpos : ∀ v, v < N → 0 ≤ (if S v then 0 else 1 - offTo es o S lo v) := fun v hv => by
    have t := tk.2.2 v hv
    rw [onesTo_at hv] at t
    have b := offTo_bd es o S lo v
    split <;> omega
  -- a leader
  have lead1 : ∀ r, r < N → oddAt es S N r ≤ sm (fun v => (if S v then 0 else 1 - offTo es o S lo v) * ind ((S r = false ∧ ∀ u, u < r → ¬ Hang es S u r) ∧ Hang es S r v)) N := fun r hr => by
    unfold oddAt
    split
    · rename_i hl
      obtain ⟨q, hq⟩ := off_even RG ok S r lo (Nat.le_refl _)
      have e : sm (fun v => (if S v then 0 else 1 - offTo es o S lo v) * ind ((S r = false ∧ ∀ u, u < r → ¬ Hang es S u r) ∧ Hang es S r v)) N = cntTo (Hang es S r) N - sm (fun v => ind (Hang es S r v) * offTo es o S lo v) N := by
        unfold cntTo
        rw [← sm_sub]
        refine sm_congr fun v _ => ?_
        by_cases hh : Hang es S r v
        · rw [ind_pos ⟨hl, hh⟩, ind_pos hh, hh.off hrg hl.1]
          simp only [Bool.false_eq_true, if_false]
          omega
        · rw [ind_neg (fun t => hh t.2), ind_neg hh]; omega
      have p : 0 ≤ sm (fun v => (if S v then 0 else 1 - offTo es o S lo v) * ind ((S r = false ∧ ∀ u, u < r → ¬ Hang es S u r) ∧ Hang es S r v)) N := by
        have := sm_le (f := fun _ => (0 : Int)) (g := fun v => (if S v then 0 else 1 - offTo es o S lo v) * ind ((S r = false ∧ ∀ u, u < r → ¬ Hang es S u r) ∧ Hang es S r v)) (k := N) fun v hv => by
          have d := dpos v hv
          by_cases hh : (S r = false ∧ ∀ u, u < r → ¬ Hang es S u r) ∧ Hang es S r v
          · rw [ind_pos hh]; omega
          · rw [ind_neg hh]; omega
        rwa [sm_zero] at this
      rw [e, hq] at p ⊢
      omega
    · rename_i hl
      have : sm (fun v => (if S v then 0 else 1 - offTo es o S lo v) * ind ((S r = false ∧ ∀ u, u < r → ¬ Hang es S u r) ∧ Hang es S r v)) N = sm (fun _ => 0) N := sm_congr fun v _ => by rw [ind_neg (fun t => hl t.1)]; omega
      rw [this, sm_zero]; exact Int.le_refl _
  -- each node has one leader at most
  have one : ∀ v k, k ≤ N → (sm (fun r => ind ((S r = false ∧ ∀ u, u < r → ¬ Hang es S u r) ∧ Hang es S r v)) k = 0) ∨ (sm (fun r => ind ((S r = false ∧ ∀ u, u < r → ¬ Hang es S u r) ∧ Hang es S r v)) k = 1 ∧ ∃ r, r < k ∧ Hang es S r v) := by
    intro v k
    induction k with
    | zero => intro _; exact .inl rfl
    | succ k ih =>
      intro hk
      rw [sm_succ]
      by_cases hh : (S k = false ∧ ∀ u, u < k → ¬ Hang es S u k) ∧ Hang es S k v
      · rw [ind_pos hh]
        rcases ih (by omega) with i | ⟨i, r, hr, hv⟩
        · exact .inr ⟨by omega, k, by omega, hh.2⟩
        · exact absurd (hv.trans (hh.2.symm hrg)) (hh.1.2 r hr)
      · rw [ind_neg hh]
        rcases ih (by omega) with i | ⟨i, r, hr, hv⟩
        · exact .inl (by omega)
        · exact .inr ⟨by omega, r, by omega, hv⟩
  have a : oddTo es S N N ≤ sm (fun r => sm (fun v => (if S v then 0 else 1 - offTo es o S lo v) * ind ((S r = false ∧ ∀ u, u < r → ¬ Hang es S u r) ∧ Hang es S r v)) N) N := sm_le fun r hr => lead1 r hr
  rw [sm_swap] at a
  refine Int.le_trans a (sm_le fun v hv => ?_)
  rw [sm_mul]
  have d := dpos v hv
  rcases one v N (Nat.le_refl _) with i | ⟨i, -⟩
  · rw [i]; omega
  · rw [i]; omega

/-- Twice a matching, and the odd parts, are no more than the nodes and the set. -/
theorem barrier_le {x : List Int} {lx : Nat} : 2 * (lo : Int) + oddTo es (inTo x lx) N N ≤ (N : Int) + (lx : Int) := by
  have tk := (tak_one (n := n) (N := N) (c := o) (L := lo) RG.ends).2 ok
  have a := odd_le RG ok (inTo x lx)
  have b := off_twice RG ok (inTo x lx) lo (Nat.le_refl _)
  have c := touch_ge RG ok (inTo x lx) lo (Nat.le_refl _)
  have d : sm (fun v => (if inTo x lx v then 1 else 0) * takTo es o lo v) N ≤ sm (fun v => if inTo x lx v then 1 else 0) N := sm_le fun v hv => by
    have t := tk.2.2 v hv
    rw [onesTo_at hv] at t
    split <;> omega
  have e : sm (fun v => if inTo x lx v then 0 else 1 - offTo es o (inTo x lx) lo v) N = ((N : Int) - sm (fun v => if inTo x lx v then 1 else 0) N) - sm (fun v => (if inTo x lx v then 0 else 1) * offTo es o (inTo x lx) lo v) N := by
    rw [← sm_one N, ← sm_sub, ← sm_sub]
    refine sm_congr fun v _ => ?_
    split <;> omega
  have f : ∀ k, sm (fun v => if inTo x k v then (1 : Int) else 0) N ≤ (k : Int) := by
    intro k
    induction k with
    | zero =>
      have : sm (fun v => if inTo x 0 v then (1 : Int) else 0) N = sm (fun _ => 0) N := sm_congr fun v _ => by simp [inTo]
      rw [this, sm_zero]; exact Int.le_refl _
    | succ k ih =>
      have s : sm (fun v => if inTo x (k + 1) v then (1 : Int) else 0) N ≤ sm (fun v => (if inTo x k v then (1 : Int) else 0) + if zAt x k = (v : Int) then 1 else 0) N := sm_le fun v _ => by
        rw [inTo_succ]
        by_cases h1 : (v : Int) = zAt x k
        · rw [if_pos h1, if_pos h1.symm]; split <;> split <;> omega
        · rw [if_neg h1, if_neg (show ¬ zAt x k = (v : Int) from fun t => h1 t.symm)]; split <;> omega
      rw [sm_add] at s
      have p : sm (fun v => if zAt x k = (v : Int) then (1 : Int) else 0) N ≤ 1 := by
        by_cases hz : 0 ≤ zAt x k ∧ zAt x k < (N : Int)
        · rw [sm_pick (fun _ => 1) (zAt x k) N hz.1 hz.2]; exact Int.le_refl _
        · rw [sm_none (fun _ => 1) (zAt x k) N hz]; omega
      omega
  have g := f lx
  omega
end
end Go.Proofs.YtkpfnkpkmbfajaaDoor
