/- One text of VqU, VqW, VqX, VqY. -/
import Derived.Test.YtpdppjngbbkbbaaDoorVmA
namespace Go.Proofs.YtpdppjngbbkbbaaDoor
open Go.RowKit

theorem sm_swap (f : Nat → Nat → Int) (a b : Nat) : sm (fun r => sm (fun v => f r v) b) a = sm (fun v => sm (fun r => f r v) a) b := by
  induction a with
  | zero =>
    show (0 : Int) = _
    rw [show (fun v => sm (fun r => f r v) 0) = fun _ => (0 : Int) from rfl, sm_zero]
  | succ a ih =>
    rw [sm_succ, ih, ← sm_add]
    exact sm_congr fun v _ => rfl
theorem sm_one (k : Nat) : sm (fun _ => (1 : Int)) k = (k : Int) := by
  induction k with
  | zero => rfl
  | succ k ih => rw [sm_succ, ih]; omega

/-- Is an edge beside a set? -/
def offE (es : List Ed) (o : List Int) (S : Nat → Bool) (j : Nat) : Bool := !S (frm es o j).toNat && !S (tto es o j).toNat
/-- How many ends of edges beside the set are at a node. -/
def offTo (es : List Ed) (o : List Int) (S : Nat → Bool) : Nat → Nat → Int
  | 0, _ => 0
  | k + 1, v => if offE es o S k then (offTo es o S k v + if frm es o k = (v : Int) then 1 else 0) + (if tto es o k = (v : Int) then 1 else 0) else offTo es o S k v
theorem offTo_succ (es : List Ed) (o : List Int) (S : Nat → Bool) (k v : Nat) : offTo es o S (k + 1) v = if offE es o S k then (offTo es o S k v + if frm es o k = (v : Int) then 1 else 0) + (if tto es o k = (v : Int) then 1 else 0) else offTo es o S k v := rfl
/-- How many edges are beside the set. -/
def offN (es : List Ed) (o : List Int) (S : Nat → Bool) (k : Nat) : Int := sm (fun j => if offE es o S j then 1 else 0) k
theorem offTo_bd (es : List Ed) (o : List Int) (S : Nat → Bool) (k v : Nat) : 0 ≤ offTo es o S k v ∧ offTo es o S k v ≤ takTo es o k v := by
  induction k with
  | zero => exact ⟨Int.le_refl _, Int.le_refl _⟩
  | succ k ih =>
    rw [offTo_succ, takTo_succ]
    split <;> split <;> split <;> omega

/-- One edge more, weighed: what its two ends weigh is added. -/
theorem sm_edge {N : Nat} (p u : Nat → Int) (f t : Int) (hf : 0 ≤ f ∧ f < (N : Int)) (ht : 0 ≤ t ∧ t < (N : Int)) :
    sm (fun v => p v * ((u v + if f = (v : Int) then 1 else 0) + if t = (v : Int) then 1 else 0)) N = sm (fun v => p v * u v) N + p f.toNat + p t.toNat := by
  have e : sm (fun v => p v * ((u v + if f = (v : Int) then 1 else 0) + if t = (v : Int) then 1 else 0)) N = (sm (fun v => p v * u v) N + sm (fun v => if f = (v : Int) then p v else 0) N) + sm (fun v => if t = (v : Int) then p v else 0) N := by
    rw [← sm_add, ← sm_add]
    refine sm_congr fun v _ => ?_
    rw [Int.mul_add, Int.mul_add]
    congr 1
    · congr 1
      split
      · rw [Int.mul_one]
      · rw [Int.mul_zero]
    · split
      · rw [Int.mul_one]
      · rw [Int.mul_zero]
  rw [e, sm_pick p f N hf.1 hf.2, sm_pick p t N ht.1 ht.2]

section
variable {es : List Ed} {N n : Nat} (RG : Right N n es) {o : List Int} {lo : Nat} (ok : MatchOk es n o lo) (S : Nat → Bool)
include RG ok

theorem ends_at {k : Nat} (hk : k < lo) : (0 ≤ frm es o k ∧ frm es o k < (N : Int)) ∧ (0 ≤ tto es o k ∧ tto es o k < (N : Int)) ∧ (zAt o k).toNat < es.length := by
  obtain ⟨r1, r2⟩ := ok.1.rng hk
  obtain ⟨e1, e2, e3, e4⟩ := RG.ends (zAt o k).toNat (by omega)
  have := RG.len
  exact ⟨⟨e1, e2⟩, ⟨e3, e4⟩, by omega⟩

theorem off_twice : ∀ k, k ≤ lo → sm (fun v => (if S v then 0 else 1) * offTo es o S k v) N = 2 * offN es o S k := by
  intro k
  induction k with
  | zero =>
    intro _
    rw [show (fun v => (if S v then (0 : Int) else 1) * offTo es o S 0 v) = fun _ => (0 : Int) from funext fun v => by show _ * (0 : Int) = 0; omega, sm_zero]
    rfl
  | succ k ih =>
    intro hk
    have i := ih (by omega)
    obtain ⟨hf, ht, -⟩ := ends_at RG ok (k := k) (by omega)
    have sn : offN es o S (k + 1) = offN es o S k + if offE es o S k then 1 else 0 := rfl
    by_cases hoff : offE es o S k = true
    · have e := sm_edge (N := N) (fun v => if S v then 0 else 1) (offTo es o S k) (frm es o k) (tto es o k) hf ht
      have c : sm (fun v => (if S v then 0 else 1) * offTo es o S (k + 1) v) N = sm (fun v => (if S v then 0 else 1) * ((offTo es o S k v + if frm es o k = (v : Int) then 1 else 0) + if tto es o k = (v : Int) then 1 else 0)) N := sm_congr fun v _ => by rw [offTo_succ, if_pos hoff]
      have h := hoff
      unfold offE at h
      rw [Bool.and_eq_true, Bool.not_eq_true', Bool.not_eq_true'] at h
      rw [c, e, i, sn, if_pos hoff, h.1, h.2]
      simp only [Bool.false_eq_true, if_false]
      omega
    · have c : sm (fun v => (if S v then 0 else 1) * offTo es o S (k + 1) v) N = sm (fun v => (if S v then 0 else 1) * offTo es o S k v) N := sm_congr fun v _ => by rw [offTo_succ, if_neg hoff]
      rw [c, i, sn, if_neg hoff]
      omega

theorem touch_ge : ∀ k, k ≤ lo → (k : Int) - offN es o S k ≤ sm (fun v => (if S v then 1 else 0) * takTo es o k v) N := by
  intro k
  induction k with
  | zero =>
    intro _
    rw [show (fun v => (if S v then (1 : Int) else 0) * takTo es o 0 v) = fun _ => (0 : Int) from funext fun v => by show _ * (0 : Int) = 0; omega, sm_zero]
    show ((0 : Nat) : Int) - 0 ≤ 0
    omega
  | succ k ih =>
    intro hk
    have i := ih (by omega)
    obtain ⟨hf, ht, -⟩ := ends_at RG ok (k := k) (by omega)
    have sn : offN es o S (k + 1) = offN es o S k + if offE es o S k then 1 else 0 := rfl
    have e := sm_edge (N := N) (fun v => if S v then 1 else 0) (takTo es o k) (frm es o k) (tto es o k) hf ht
    have c : sm (fun v => (if S v then 1 else 0) * takTo es o (k + 1) v) N = sm (fun v => (if S v then 1 else 0) * ((takTo es o k v + if frm es o k = (v : Int) then 1 else 0) + if tto es o k = (v : Int) then 1 else 0)) N := sm_congr fun v _ => by rw [takTo_succ]
    rw [c, e, sn]
    cases hf' : S (frm es o k).toNat <;> cases ht' : S (tto es o k).toNat <;> (unfold offE; simp only [hf', ht']; simp; omega)

theorem hang_edge {k : Nat} (hk : k < lo) (h : offE es o S k = true) : Hang es S (frm es o k).toNat (tto es o k).toNat := by
  obtain ⟨hf, ht, hl⟩ := ends_at RG ok hk
  unfold offE at h
  rw [Bool.and_eq_true, Bool.not_eq_true', Bool.not_eq_true'] at h
  have hm : edAt es (zAt o k).toNat ∈ rest es S := rest_mem.2 ⟨mem_at hl, h.1, h.2⟩
  refine (Way.refl _).step ?_
  refine mem_outs' (e := edAt es (zAt o k).toNat) (List.mem_append_left _ hm) ?_ ?_
  · show frm es o k = _; omega
  · show tto es o k = _; omega

theorem off_even (r : Nat) : ∀ k, k ≤ lo → ∃ q : Int, sm (fun v => ind (Hang es S r v) * offTo es o S k v) N = 2 * q := by
  have hrg := RG.mem
  intro k
  induction k with
  | zero =>
    intro _
    exact ⟨0, by rw [show (fun v => ind (Hang es S r v) * offTo es o S 0 v) = fun _ => (0 : Int) from funext fun v => by show _ * (0 : Int) = 0; omega, sm_zero]; rfl⟩
  | succ k ih =>
    intro hk
    obtain ⟨q, i⟩ := ih (by omega)
    obtain ⟨hf, ht, -⟩ := ends_at RG ok (k := k) (by omega)
    by_cases hoff : offE es o S k = true
    · have e := sm_edge (N := N) (fun v => ind (Hang es S r v)) (offTo es o S k) (frm es o k) (tto es o k) hf ht
      have c : sm (fun v => ind (Hang es S r v) * offTo es o S (k + 1) v) N = sm (fun v => ind (Hang es S r v) * ((offTo es o S k v + if frm es o k = (v : Int) then 1 else 0) + if tto es o k = (v : Int) then 1 else 0)) N := sm_congr fun v _ => by rw [offTo_succ, if_pos hoff]
      have he := hang_edge RG ok S (k := k) (by omega) hoff
      have hp : ind (Hang es S r (frm es o k).toNat) = ind (Hang es S r (tto es o k).toNat) := ind_congr ⟨fun t => t.trans he, fun t => t.trans (he.symm hrg)⟩
      exact ⟨q + ind (Hang es S r (tto es o k).toNat), by rw [c, e, i, hp]; omega⟩
    · have c : sm (fun v => ind (Hang es S r v) * offTo es o S (k + 1) v) N = sm (fun v => ind (Hang es S r v) * offTo es o S k v) N := sm_congr fun v _ => by rw [offTo_succ, if_neg hoff]
      exact ⟨q, by rw [c, i]⟩

/-- What is left at a node beside the set. -/
theorem odd_le : oddTo es S N N ≤ sm (fun v => if S v then 0 else 1 - offTo es o S lo v) N := by
  have hrg := RG.mem
  have tk := (tak_one (n := n) (N := N) (c := o) (L := lo) RG.ends).2 ok
  have dpos : ∀ v, v < N → 0 ≤ (if S v then 0 else 1 - offTo es o S lo v) := fun v hv => by
    have t := tk.2.2 v hv
    rw [onesTo_at hv] at t
    have b := offTo_bd es o S lo v
    split <;> omega
  -- a leader
  have lead1 : ∀ r, r < N → oddAt es S N r ≤ sm (fun v => (if S v then 0 else 1 - offTo es o S lo v) * ind ((S r = false ∧ ∀ u, u < r → ¬ Hang es S u r) ∧ Hang es S r v)) N := fun r hr => by
    unfold oddAt
    split
    · rename_i hl
      obtain ⟨q, hq⟩ := off_even RG ok S r lo (Nat.le_refl _)
      have e : sm (fun v => (if S v then 0 else 1 - offTo es o S lo v) * ind ((S r = false ∧ ∀ u, u < r → ¬ Hang es S u r) ∧ Hang es S r v)) N = cntTo (Hang es S r) N - sm (fun v => ind (Hang es S r v) * offTo es o S lo v) N := by
        unfold cntTo
        rw [← sm_sub]
        refine sm_congr fun v _ => ?_
        by_cases hh : Hang es S r v
        · rw [ind_pos ⟨hl, hh⟩, ind_pos hh, hh.off hrg hl.1]
          simp only [Bool.false_eq_true, if_false]
          omega
        · rw [ind_neg (fun t => hh t.2), ind_neg hh]; omega
      have p : 0 ≤ sm (fun v => (if S v then 0 else 1 - offTo es o S lo v) * ind ((S r = false ∧ ∀ u, u < r → ¬ Hang es S u r) ∧ Hang es S r v)) N := by
        have := sm_le (f := fun _ => (0 : Int)) (g := fun v => (if S v then 0 else 1 - offTo es o S lo v) * ind ((S r = false ∧ ∀ u, u < r → ¬ Hang es S u r) ∧ Hang es S r v)) (k := N) fun v hv => by
          have d := dpos v hv
          by_cases hh : (S r = false ∧ ∀ u, u < r → ¬ Hang es S u r) ∧ Hang es S r v
          · rw [ind_pos hh]; omega
          · rw [ind_neg hh]; omega
        rwa [sm_zero] at this
      rw [e, hq] at p ⊢
      omega
    · rename_i hl
      have : sm (fun v => (if S v then 0 else 1 - offTo es o S lo v) * ind ((S r = false ∧ ∀ u, u < r → ¬ Hang es S u r) ∧ Hang es S r v)) N = sm (fun _ => 0) N := sm_congr fun v _ => by rw [ind_neg (fun t => hl t.1)]; omega
      rw [this, sm_zero]; exact Int.le_refl _
  -- each node has one leader at most
  have one : ∀ v k, k ≤ N → (sm (fun r => ind ((S r = false ∧ ∀ u, u < r → ¬ Hang es S u r) ∧ Hang es S r v)) k = 0) ∨ (sm (fun r => ind ((S r = false ∧ ∀ u, u < r → ¬ Hang es S u r) ∧ Hang es S r v)) k = 1 ∧ ∃ r, r < k ∧ Hang es S r v) := by
    intro v k
    induction k with
    | zero => intro _; exact .inl rfl
    | succ k ih =>
      intro hk
      rw [sm_succ]
      by_cases hh : (S k = false ∧ ∀ u, u < k → ¬ Hang es S u k) ∧ Hang es S k v
      · rw [ind_pos hh]
        rcases ih (by omega) with i | ⟨i, r, hr, hv⟩
        · exact .inr ⟨by omega, k, by omega, hh.2⟩
        · exact absurd (hv.trans (hh.2.symm hrg)) (hh.1.2 r hr)
      · rw [ind_neg hh]
        rcases ih (by omega) with i | ⟨i, r, hr, hv⟩
        · exact .inl (by omega)
        · exact .inr ⟨by omega, r, by omega, hv⟩
  have a : oddTo es S N N ≤ sm (fun r => sm (fun v => (if S v then 0 else 1 - offTo es o S lo v) * ind ((S r = false ∧ ∀ u, u < r → ¬ Hang es S u r) ∧ Hang es S r v)) N) N := sm_le fun r hr => lead1 r hr
  rw [sm_swap] at a
  refine Int.le_trans a (sm_le fun v hv => ?_)
  rw [sm_mul]
  have d := dpos v hv
  rcases one v N (Nat.le_refl _) with i | ⟨i, -⟩
  · rw [i]; omega
  · rw [i]; omega

/-- Twice a matching, and the odd parts, are no more than the nodes and the set. -/
theorem barrier_le {x : List Int} {lx : Nat} : 2 * (lo : Int) + oddTo es (inTo x lx) N N ≤ (N : Int) + (lx : Int) := by
  have tk := (tak_one (n := n) (N := N) (c := o) (L := lo) RG.ends).2 ok
  have a := odd_le RG ok (inTo x lx)
  have b := off_twice RG ok (inTo x lx) lo (Nat.le_refl _)
  have c := touch_ge RG ok (inTo x lx) lo (Nat.le_refl _)
  have d : sm (fun v => (if inTo x lx v then 1 else 0) * takTo es o lo v) N ≤ sm (fun v => if inTo x lx v then 1 else 0) N := sm_le fun v hv => by
    have t := tk.2.2 v hv
    rw [onesTo_at hv] at t
    split <;> omega
  have e : sm (fun v => if inTo x lx v then 0 else 1 - offTo es o (inTo x lx) lo v) N = ((N : Int) - sm (fun v => if inTo x lx v then 1 else 0) N) - sm (fun v => (if inTo x lx v then 0 else 1) * offTo es o (inTo x lx) lo v) N := by
    rw [← sm_one N, ← sm_sub, ← sm_sub]
    refine sm_congr fun v _ => ?_
    split <;> omega
  have f : ∀ k, sm (fun v => if inTo x k v then (1 : Int) else 0) N ≤ (k : Int) := by
    intro k
    induction k with
    | zero =>
      have : sm (fun v => if inTo x 0 v then (1 : Int) else 0) N = sm (fun _ => 0) N := sm_congr fun v _ => by simp [inTo]
      rw [this, sm_zero]; exact Int.le_refl _
    | succ k ih =>
      have s : sm (fun v => if inTo x (k + 1) v then (1 : Int) else 0) N ≤ sm (fun v => (if inTo x k v then (1 : Int) else 0) + if zAt x k = (v : Int) then 1 else 0) N := sm_le fun v _ => by
        rw [inTo_succ]
        by_cases h1 : (v : Int) = zAt x k
        · rw [if_pos h1, if_pos h1.symm]; split <;> split <;> omega
        · rw [if_neg h1, if_neg (show ¬ zAt x k = (v : Int) from fun t => h1 t.symm)]; split <;> omega
      rw [sm_add] at s
      have p : sm (fun v => if zAt x k = (v : Int) then (1 : Int) else 0) N ≤ 1 := by
        by_cases hz : 0 ≤ zAt x k ∧ zAt x k < (N : Int)
        · rw [sm_pick (fun _ => 1) (zAt x k) N hz.1 hz.2]; exact Int.le_refl _
        · rw [sm_none (fun _ => 1) (zAt x k) N hz]; omega
      omega
  have g := f lx
  omega
end
end Go.Proofs.YtpdppjngbbkbbaaDoor
namespace Go.Proofs.YtpdppjngbbkbbaaDoor
open Go.RowKit

abbrev Pairs := List (Int × Int)
def offQ (S : Nat → Bool) (p : Int × Int) : Bool := !S p.1.toNat && !S p.2.toNat
def cntP : Pairs → Nat → Int
  | [], _ => 0
  | p :: P, v => (cntP P v + if p.1 = (v : Int) then 1 else 0) + if p.2 = (v : Int) then 1 else 0
theorem cntP_cons (p : Int × Int) (P : Pairs) (v : Nat) : cntP (p :: P) v = (cntP P v + if p.1 = (v : Int) then 1 else 0) + if p.2 = (v : Int) then 1 else 0 := rfl
def offP (S : Nat → Bool) : Pairs → Nat → Int
  | [], _ => 0
  | p :: P, v => if offQ S p then (offP S P v + if p.1 = (v : Int) then 1 else 0) + (if p.2 = (v : Int) then 1 else 0) else offP S P v
theorem offP_cons (S : Nat → Bool) (p : Int × Int) (P : Pairs) (v : Nat) : offP S (p :: P) v = if offQ S p then (offP S P v + if p.1 = (v : Int) then 1 else 0) + (if p.2 = (v : Int) then 1 else 0) else offP S P v := rfl
def offM (S : Nat → Bool) : Pairs → Int
  | [] => 0
  | p :: P => offM S P + if offQ S p then 1 else 0
theorem offP_bd (S : Nat → Bool) (P : Pairs) (v : Nat) : 0 ≤ offP S P v ∧ offP S P v ≤ cntP P v := by
  induction P with
  | nil => exact ⟨Int.le_refl _, Int.le_refl _⟩
  | cons p P ih =>
    rw [offP_cons, cntP_cons]
    split <;> split <;> split <;> omega

/-- Pairs of nodes that edges join. -/
def Joined (es : List Ed) (N : Nat) (P : Pairs) : Prop := ∀ p ∈ P, (0 ≤ p.1 ∧ p.1 < (N : Int)) ∧ (0 ≤ p.2 ∧ p.2 < (N : Int)) ∧ p.2.toNat ∈ outs (both es) p.1.toNat

section
variable {es : List Ed} {N : Nat} (hrg : ∀ e ∈ es, 0 ≤ e.f ∧ e.f < (N : Int) ∧ 0 ≤ e.t ∧ e.t < (N : Int)) (S : Nat → Bool)
include hrg

omit hrg in
theorem off_twiceP {P : Pairs} (hj : Joined es N P) : sm (fun v => (if S v then 0 else 1) * offP S P v) N = 2 * offM S P := by
  induction P with
  | nil =>
    rw [show (fun v => (if S v then (0 : Int) else 1) * offP S [] v) = fun _ => (0 : Int) from funext fun v => by show _ * (0 : Int) = 0; omega, sm_zero]
    rfl
  | cons p P ih =>
    have i := ih (fun q hq => hj q (List.mem_cons_of_mem _ hq))
    obtain ⟨hf, ht, -⟩ := hj p (List.mem_cons_self)
    have sn : offM S (p :: P) = offM S P + if offQ S p then 1 else 0 := rfl
    by_cases hoff : offQ S p = true
    · have e := sm_edge (N := N) (fun v => if S v then 0 else 1) (offP S P) p.1 p.2 hf ht
      have c : sm (fun v => (if S v then 0 else 1) * offP S (p :: P) v) N = sm (fun v => (if S v then 0 else 1) * ((offP S P v + if p.1 = (v : Int) then 1 else 0) + if p.2 = (v : Int) then 1 else 0)) N := sm_congr fun v _ => by rw [offP_cons, if_pos hoff]
      have h := hoff
      unfold offQ at h
      rw [Bool.and_eq_true, Bool.not_eq_true', Bool.not_eq_true'] at h
      rw [c, e, i, sn, if_pos hoff, h.1, h.2]
      simp only [Bool.false_eq_true, if_false]
      omega
    · have c : sm (fun v => (if S v then 0 else 1) * offP S (p :: P) v) N = sm (fun v => (if S v then 0 else 1) * offP S P v) N := sm_congr fun v _ => by rw [offP_cons, if_neg hoff]
      rw [c, i, sn, if_neg hoff]
      omega

omit hrg in
theorem touch_geP {P : Pairs} (hj : Joined es N P) : (P.length : Int) - offM S P ≤ sm (fun v => (if S v then 1 else 0) * cntP P v) N := by
  induction P with
  | nil =>
    rw [show (fun v => (if S v then (1 : Int) else 0) * cntP [] v) = fun _ => (0 : Int) from funext fun v => by show _ * (0 : Int) = 0; omega, sm_zero]
    show ((0 : Nat) : Int) - 0 ≤ 0
    omega
  | cons p P ih =>
    have i := ih (fun q hq => hj q (List.mem_cons_of_mem _ hq))
    obtain ⟨hf, ht, -⟩ := hj p (List.mem_cons_self)
    have sn : offM S (p :: P) = offM S P + if offQ S p then 1 else 0 := rfl
    have e := sm_edge (N := N) (fun v => if S v then 1 else 0) (cntP P) p.1 p.2 hf ht
    have c : sm (fun v => (if S v then 1 else 0) * cntP (p :: P) v) N = sm (fun v => (if S v then 1 else 0) * ((cntP P v + if p.1 = (v : Int) then 1 else 0) + if p.2 = (v : Int) then 1 else 0)) N := sm_congr fun v _ => by rw [cntP_cons]
    rw [c, e, sn, List.length_cons]
    cases hf' : S p.1.toNat <;> cases ht' : S p.2.toNat <;> (unfold offQ; simp only [hf', ht']; simp; omega)

theorem off_evenP (r : Nat) {P : Pairs} (hj : Joined es N P) : ∃ q : Int, sm (fun v => ind (Hang es S r v) * offP S P v) N = 2 * q := by
  induction P with
  | nil => exact ⟨0, by rw [show (fun v => ind (Hang es S r v) * offP S [] v) = fun _ => (0 : Int) from funext fun v => by show _ * (0 : Int) = 0; omega, sm_zero]; rfl⟩
  | cons p P ih =>
    obtain ⟨q, i⟩ := ih (fun q hq => hj q (List.mem_cons_of_mem _ hq))
    obtain ⟨hf, ht, hm⟩ := hj p (List.mem_cons_self)
    by_cases hoff : offQ S p = true
    · have e := sm_edge (N := N) (fun v => ind (Hang es S r v)) (offP S P) p.1 p.2 hf ht
      have c : sm (fun v => ind (Hang es S r v) * offP S (p :: P) v) N = sm (fun v => ind (Hang es S r v) * ((offP S P v + if p.1 = (v : Int) then 1 else 0) + if p.2 = (v : Int) then 1 else 0)) N := sm_congr fun v _ => by rw [offP_cons, if_pos hoff]
      have h := hoff
      unfold offQ at h
      rw [Bool.and_eq_true, Bool.not_eq_true', Bool.not_eq_true'] at h
      have he : Hang es S p.1.toNat p.2.toNat := (Way.refl _).step ((outs_rest hrg S _ _).2 ⟨hm, h.1, h.2⟩)
      have hp : ind (Hang es S r p.1.toNat) = ind (Hang es S r p.2.toNat) := ind_congr ⟨fun t => t.trans he, fun t => t.trans (he.symm hrg)⟩
      exact ⟨q + ind (Hang es S r p.2.toNat), by rw [c, e, i, hp]; omega⟩
    · have c : sm (fun v => ind (Hang es S r v) * offP S (p :: P) v) N = sm (fun v => ind (Hang es S r v) * offP S P v) N := sm_congr fun v _ => by rw [offP_cons, if_neg hoff]
      exact ⟨q, by rw [c, i]⟩

theorem odd_leP {P : Pairs} (hj : Joined es N P) (h1 : ∀ v, v < N → cntP P v ≤ 1) : oddTo es S N N ≤ sm (fun v => if S v then 0 else 1 - offP S P v) N := by
  have dpos : ∀ v, v < N → 0 ≤ (if S v then 0 else 1 - offP S P v) := fun v hv => by
    have t := h1 v hv
    have b := offP_bd S P v
    split <;> omega
  have lead1 : ∀ r, r < N → oddAt es S N r ≤ sm (fun v => (if S v then 0 else 1 - offP S P v) * ind ((S r = false ∧ ∀ u, u < r → ¬ Hang es S u r) ∧ Hang es S r v)) N := fun r hr => by
    unfold oddAt
    split
    · rename_i hl
      obtain ⟨q, hq⟩ := off_evenP hrg S r hj
      have e : sm (fun v => (if S v then 0 else 1 - offP S P v) * ind ((S r = false ∧ ∀ u, u < r → ¬ Hang es S u r) ∧ Hang es S r v)) N = cntTo (Hang es S r) N - sm (fun v => ind (Hang es S r v) * offP S P v) N := by
        unfold cntTo
        rw [← sm_sub]
        refine sm_congr fun v _ => ?_
        by_cases hh : Hang es S r v
        · rw [ind_pos ⟨hl, hh⟩, ind_pos hh, hh.off hrg hl.1]
          simp only [Bool.false_eq_true, if_false]
          omega
        · rw [ind_neg (fun t => hh t.2), ind_neg hh]; omega
      have p : 0 ≤ sm (fun v => (if S v then 0 else 1 - offP S P v) * ind ((S r = false ∧ ∀ u, u < r → ¬ Hang es S u r) ∧ Hang es S r v)) N := by
        have := sm_le (f := fun _ => (0 : Int)) (g := fun v => (if S v then 0 else 1 - offP S P v) * ind ((S r = false ∧ ∀ u, u < r → ¬ Hang es S u r) ∧ Hang es S r v)) (k := N) fun v hv => by
          have d := dpos v hv
          by_cases hh : (S r = false ∧ ∀ u, u < r → ¬ Hang es S u r) ∧ Hang es S r v
          · rw [ind_pos hh]; omega
          · rw [ind_neg hh]; omega
        rwa [sm_zero] at this
      rw [e, hq] at p ⊢
      omega
    · rename_i hl
      have : sm (fun v => (if S v then 0 else 1 - offP S P v) * ind ((S r = false ∧ ∀ u, u < r → ¬ Hang es S u r) ∧ Hang es S r v)) N = sm (fun _ => 0) N := sm_congr fun v _ => by rw [ind_neg (fun t => hl t.1)]; omega
      rw [this, sm_zero]; exact Int.le_refl _
  have one : ∀ v k, k ≤ N → (sm (fun r => ind ((S r = false ∧ ∀ u, u < r → ¬ Hang es S u r) ∧ Hang es S r v)) k = 0) ∨ (sm (fun r => ind ((S r = false ∧ ∀ u, u < r → ¬ Hang es S u r) ∧ Hang es S r v)) k = 1 ∧ ∃ r, r < k ∧ Hang es S r v) := by
    intro v k
    induction k with
    | zero => intro _; exact .inl rfl
    | succ k ih =>
      intro hk
      rw [sm_succ]
      by_cases hh : (S k = false ∧ ∀ u, u < k → ¬ Hang es S u k) ∧ Hang es S k v
      · rw [ind_pos hh]
        rcases ih (by omega) with i | ⟨i, r, hr, hv⟩
        · exact .inr ⟨by omega, k, by omega, hh.2⟩
        · exact absurd (hv.trans (hh.2.symm hrg)) (hh.1.2 r hr)
      · rw [ind_neg hh]
        rcases ih (by omega) with i | ⟨i, r, hr, hv⟩
        · exact .inl (by omega)
        · exact .inr ⟨by omega, r, by omega, hv⟩
  have a : oddTo es S N N ≤ sm (fun r => sm (fun v => (if S v then 0 else 1 - offP S P v) * ind ((S r = false ∧ ∀ u, u < r → ¬ Hang es S u r) ∧ Hang es S r v)) N) N := sm_le fun r hr => lead1 r hr
  rw [sm_swap] at a
  refine Int.le_trans a (sm_le fun v hv => ?_)
  rw [sm_mul]
  have d := dpos v hv
  rcases one v N (Nat.le_refl _) with i | ⟨i, -⟩
  · rw [i]; omega
  · rw [i]; omega

/-- Twice the pairs, and the odd parts, are no more than the nodes and the set. -/
theorem barrierP {P : Pairs} (hj : Joined es N P) (h1 : ∀ v, v < N → cntP P v ≤ 1) {x : List Int} {lx : Nat} : 2 * (P.length : Int) + oddTo es (inTo x lx) N N ≤ (N : Int) + (lx : Int) := by
  have a := odd_leP hrg (inTo x lx) hj h1
  have b := off_twiceP (inTo x lx) hj
  have c := touch_geP (inTo x lx) hj
  have d : sm (fun v => (if inTo x lx v then 1 else 0) * cntP P v) N ≤ sm (fun v => if inTo x lx v then 1 else 0) N := sm_le fun v hv => by
    have t := h1 v hv
    split <;> omega
  have e : sm (fun v => if inTo x lx v then 0 else 1 - offP (inTo x lx) P v) N = ((N : Int) - sm (fun v => if inTo x lx v then 1 else 0) N) - sm (fun v => (if inTo x lx v then 0 else 1) * offP (inTo x lx) P v) N := by
    rw [← sm_one N, ← sm_sub, ← sm_sub]
    refine sm_congr fun v _ => ?_
    split <;> omega
  have f : ∀ k, sm (fun v => if inTo x k v then (1 : Int) else 0) N ≤ (k : Int) := by
    intro k
    induction k with
    | zero =>
      have : sm (fun v => if inTo x 0 v then (1 : Int) else 0) N = sm (fun _ => 0) N := sm_congr fun v _ => by simp [inTo]
      rw [this, sm_zero]; exact Int.le_refl _
    | succ k ih =>
      have s : sm (fun v => if inTo x (k + 1) v then (1 : Int) else 0) N ≤ sm (fun v => (if inTo x k v then (1 : Int) else 0) + if zAt x k = (v : Int) then 1 else 0) N := sm_le fun v _ => by
        rw [inTo_succ]
        by_cases h1 : (v : Int) = zAt x k
        · rw [if_pos h1, if_pos h1.symm]; split <;> split <;> omega
        · rw [if_neg h1, if_neg (show ¬ zAt x k = (v : Int) from fun t => h1 t.symm)]; split <;> omega
      rw [sm_add] at s
      have p : sm (fun v => if zAt x k = (v : Int) then (1 : Int) else 0) N ≤ 1 := by
        by_cases hz : 0 ≤ zAt x k ∧ zAt x k < (N : Int)
        · rw [sm_pick (fun _ => 1) (zAt x k) N hz.1 hz.2]; exact Int.le_refl _
        · rw [sm_none (fun _ => 1) (zAt x k) N hz]; omega
      omega
  have g := f lx
  omega
end
end Go.Proofs.YtpdppjngbbkbbaaDoor
namespace Go.Proofs.YtpdppjngbbkbbaaDoor
open Go.RowKit

theorem CpOk.sm_lt {cp : Nat → Int} {N : Nat} (h : CpOk cp N) {v k : Nat} (hv : v < k) (hk : k ≤ N) : sm cp v + cp v ≤ sm cp k := by
  induction k with
  | zero => omega
  | succ k ih =>
    rw [sm_succ]
    by_cases e : v = k
    · subst e; omega
    · have := ih (by omega) (by omega)
      have := h k (by omega)
      omega
/-- A copy is the copy of one node. -/
theorem CpOk.apart {cp : Nat → Int} {N : Nat} (h : CpOk cp N) {v u : Nat} (hv : v < N) (hu : u < N) {c d : Int} (c0 : 0 ≤ c) (c1 : c < cp v) (d0 : 0 ≤ d) (d1 : d < cp u) (e : sm cp v + c = sm cp u + d) : v = u ∧ c = d := by
  rcases Nat.lt_trichotomy v u with t | t | t
  · have := h.sm_lt t (by omega); omega
  · subst t; exact ⟨rfl, by omega⟩
  · have := h.sm_lt t (by omega); omega

/-- How many ends of the edges taken, of the first k edges of all, are at a node. -/
def useTo (es : List Ed) (I : Nat → Bool) : Nat → Nat → Int
  | 0, _ => 0
  | k + 1, v => if I k then (useTo es I k v + if (edAt es k).f = (v : Int) then 1 else 0) + (if (edAt es k).t = (v : Int) then 1 else 0) else useTo es I k v
theorem useTo_succ (es : List Ed) (I : Nat → Bool) (k v : Nat) : useTo es I (k + 1) v = if I k then (useTo es I k v + if (edAt es k).f = (v : Int) then 1 else 0) + (if (edAt es k).t = (v : Int) then 1 else 0) else useTo es I k v := rfl
theorem useTo_mono (es : List Ed) (I : Nat → Bool) (k v : Nat) : ∀ j, 0 ≤ useTo es I k v ∧ useTo es I k v ≤ useTo es I (k + j) v := by
  have nn : ∀ k, 0 ≤ useTo es I k v := by
    intro k
    induction k with
    | zero => exact Int.le_refl _
    | succ k ih => rw [useTo_succ]; split <;> (try split) <;> (try split) <;> omega
  intro j
  refine ⟨nn k, ?_⟩
  induction j with
  | zero => exact Int.le_refl _
  | succ j ih => rw [← Nat.add_assoc, useTo_succ]; split <;> (try split) <;> (try split) <;> omega

/-- The pairs that an edge gives. -/
def segOf (cp : Nat → Int) (N : Nat) (es : List Ed) (I : Nat → Bool) (k : Nat) : Pairs :=
  if lp es k then [] else if I k then [(sm cp (edAt es k).f.toNat + useTo es I k (edAt es k).f.toNat, szN cp N es k), (szN cp N es k + 1, sm cp (edAt es k).t.toNat + useTo es I k (edAt es k).t.toNat)] else [(szN cp N es k, szN cp N es k + 1)]
def gpTo (cp : Nat → Int) (N : Nat) (es : List Ed) (I : Nat → Bool) : Nat → Pairs
  | 0 => []
  | k + 1 => segOf cp N es I k ++ gpTo cp N es I k
theorem gpTo_succ (cp : Nat → Int) (N : Nat) (es : List Ed) (I : Nat → Bool) (k : Nat) : gpTo cp N es I (k + 1) = segOf cp N es I k ++ gpTo cp N es I k := rfl

theorem gpTo_len {cp : Nat → Int} {N : Nat} {es : List Ed} {I : Nat → Bool} (hI : ∀ k, I k = true → lp es k = false) : ∀ k, ((gpTo cp N es I k).length : Int) = nlTo es k + sm (fun j => if I j then 1 else 0) k := by
  intro k
  induction k with
  | zero => rfl
  | succ k ih =>
    rw [gpTo_succ, List.length_append, nlTo_succ, sm_succ]
    unfold segOf
    cases hl : lp es k with
    | true =>
      cases hi : I k with
      | true => rw [hI k hi] at hl; cases hl
      | false => simp; omega
    | false =>
      cases hi : I k with
      | true => simp; omega
      | false => simp; omega

section
variable {cp : Nat → Int} {N n : Nat} {es : List Ed} {I : Nat → Bool} (hcp : CpOk cp N) (he : EndsIn es N n) (hI : ∀ k, I k = true → lp es k = false) (hu : ∀ v, v < N → useTo es I n v ≤ cp v)
include hcp he hI hu

omit hcp in
theorem use_room {k : Nat} (hk : k < n) (hi : I k = true) : (0 ≤ useTo es I k (edAt es k).f.toNat ∧ useTo es I k (edAt es k).f.toNat < cp (edAt es k).f.toNat) ∧ (0 ≤ useTo es I k (edAt es k).t.toNat ∧ useTo es I k (edAt es k).t.toNat < cp (edAt es k).t.toNat) := by
  obtain ⟨e1, e2, e3, e4⟩ := he k hk
  have hl := hI k hi
  unfold lp at hl
  rw [beq_eq_false_iff_ne] at hl
  have a := hu (edAt es k).f.toNat (by omega)
  have b := hu (edAt es k).t.toNat (by omega)
  have c := useTo_mono es I (k + 1) (edAt es k).f.toNat (n - (k + 1))
  have d := useTo_mono es I (k + 1) (edAt es k).t.toNat (n - (k + 1))
  rw [show k + 1 + (n - (k + 1)) = n by omega] at c d
  have c' := (useTo_mono es I k (edAt es k).f.toNat 0).1
  have d' := (useTo_mono es I k (edAt es k).t.toNat 0).1
  have s := useTo_succ es I k (edAt es k).f.toNat
  have t := useTo_succ es I k (edAt es k).t.toNat
  rw [if_pos hi, if_pos (show (edAt es k).f = (((edAt es k).f.toNat : Nat) : Int) by omega), if_neg (by omega)] at s
  rw [if_pos hi, if_neg (by omega), if_pos (show (edAt es k).t = (((edAt es k).t.toNat : Nat) : Int) by omega)] at t
  omega

/-- What is at each node of the gadget so far. -/
def GInv (cp : Nat → Int) (N : Nat) (es : List Ed) (I : Nat → Bool) (k : Nat) : Prop :=
  (∀ w, cntP (gpTo cp N es I k) w ≤ 1) ∧ (∀ w : Nat, szN cp N es k ≤ (w : Int) → cntP (gpTo cp N es I k) w = 0) ∧ ∀ v, v < N → ∀ c : Int, useTo es I k v ≤ c → c < cp v → ∀ w : Nat, (w : Int) = sm cp v + c → cntP (gpTo cp N es I k) w = 0

theorem ginv_step {k : Nat} (hk : k < n) (h : GInv cp N es I k) : GInv cp N es I (k + 1) := by
  obtain ⟨h1, h2, h3⟩ := h
  obtain ⟨e1, e2, e3, e4⟩ := he k hk
  have hx : sm cp N ≤ szN cp N es k := by unfold szN; have := (nlTo_bd es k).1; omega
  have hv : ∀ v, v < N → sm cp v + cp v ≤ szN cp N es k := fun v hv => by have := (hcp.sm_step hv).2; omega
  have hz := szN_succ cp N es k
  have hs := fun v => useTo_succ es I k v
  cases hl : lp es k with
  | true =>
    have hi : I k = false := by cases hi : I k with | false => rfl | true => rw [hI k hi] at hl; cases hl
    have eg : gpTo cp N es I (k + 1) = gpTo cp N es I k := by rw [gpTo_succ]; unfold segOf; rw [if_pos hl]; rfl
    rw [if_pos hl] at hz
    unfold GInv
    rw [eg]
    refine ⟨h1, fun w hw => h2 w (by omega), fun v hv c c0 c1 w hw => ?_⟩
    rw [hs v, hi] at c0
    exact h3 v hv c c0 c1 w hw
  | false =>
    rw [if_neg (by rw [hl]; decide)] at hz
    cases hi : I k with
    | false =>
      have eg : gpTo cp N es I (k + 1) = (szN cp N es k, szN cp N es k + 1) :: gpTo cp N es I k := by rw [gpTo_succ]; unfold segOf; rw [if_neg (by rw [hl]; decide), if_neg (by rw [hi]; decide)]; rfl
      unfold GInv
      rw [eg]
      refine ⟨fun w => ?_, fun w hw => ?_, fun v hv' c c0 c1 w hw => ?_⟩
      · rw [cntP_cons]
        have a := h1 w
        have b := h2 w
        simp only
        split <;> split <;> omega
      · rw [cntP_cons]
        have b := h2 w (by omega)
        simp only
        split <;> split <;> omega
      · rw [hs v, hi] at c0
        have a := h3 v hv' c c0 c1 w hw
        have b := hv v hv'
        rw [cntP_cons]
        simp only
        split <;> split <;> omega
    | true =>
      obtain ⟨⟨f0, f1⟩, t0, t1⟩ := use_room he hI hu hk hi
      have hft : (edAt es k).f ≠ (edAt es k).t := by
        have hl' := hl
        unfold lp at hl'
        rw [beq_eq_false_iff_ne] at hl'
        exact hl'
      have fa := hv (edAt es k).f.toNat (by omega)
      have fb := hv (edAt es k).t.toNat (by omega)
      have fz := (hcp.sm_step (v := (edAt es k).f.toNat) (by omega)).1
      have tz := (hcp.sm_step (v := (edAt es k).t.toNat) (by omega)).1
      have hab : sm cp (edAt es k).f.toNat + useTo es I k (edAt es k).f.toNat ≠ sm cp (edAt es k).t.toNat + useTo es I k (edAt es k).t.toNat := fun e => by
        have := (hcp.apart (by omega) (by omega) f0 f1 t0 t1 e).1
        omega
      have eg : gpTo cp N es I (k + 1) = (sm cp (edAt es k).f.toNat + useTo es I k (edAt es k).f.toNat, szN cp N es k) :: (szN cp N es k + 1, sm cp (edAt es k).t.toNat + useTo es I k (edAt es k).t.toNat) :: gpTo cp N es I k := by rw [gpTo_succ]; unfold segOf; rw [if_neg (by rw [hl]; decide), if_pos hi]; rfl
      have ha : ∀ w : Nat, sm cp (edAt es k).f.toNat + useTo es I k (edAt es k).f.toNat = (w : Int) → cntP (gpTo cp N es I k) w = 0 := fun w hw => h3 (edAt es k).f.toNat (by omega) _ (Int.le_refl _) f1 w hw.symm
      have hb : ∀ w : Nat, sm cp (edAt es k).t.toNat + useTo es I k (edAt es k).t.toNat = (w : Int) → cntP (gpTo cp N es I k) w = 0 := fun w hw => h3 (edAt es k).t.toNat (by omega) _ (Int.le_refl _) t1 w hw.symm
      unfold GInv
      rw [eg]
      refine ⟨fun w => ?_, fun w hw => ?_, fun v hv' c c0 c1 w hw => ?_⟩
      · rw [cntP_cons, cntP_cons]
        have a := h1 w
        have b := h2 w
        have c := ha w
        have d := hb w
        simp only
        split <;> split <;> split <;> split <;> omega
      · rw [cntP_cons, cntP_cons]
        have b := h2 w (by omega)
        simp only
        split <;> split <;> split <;> split <;> omega
      · have c0' := c0
        rw [hs v, if_pos hi] at c0
        have m := useTo_mono es I k v 1
        have a := h3 v hv' c (by omega) c1 w hw
        have b := hv v hv'
        have na : sm cp (edAt es k).f.toNat + useTo es I k (edAt es k).f.toNat ≠ (w : Int) := fun e => by
          obtain ⟨e1', e2'⟩ := hcp.apart (v := (edAt es k).f.toNat) (u := v) (by omega) hv' f0 f1 (by omega) c1 (by omega)
          rw [← e1', if_pos (show (edAt es k).f = (((edAt es k).f.toNat : Nat) : Int) by omega)] at c0
          split at c0 <;> omega
        have nb : sm cp (edAt es k).t.toNat + useTo es I k (edAt es k).t.toNat ≠ (w : Int) := fun e => by
          obtain ⟨e1', e2'⟩ := hcp.apart (v := (edAt es k).t.toNat) (u := v) (by omega) hv' t0 t1 (by omega) c1 (by omega)
          rw [← e1', if_pos (show (edAt es k).t = (((edAt es k).t.toNat : Nat) : Int) by omega)] at c0
          split at c0 <;> omega
        rw [cntP_cons, cntP_cons]
        simp only
        rw [if_neg na, if_neg nb]
        split <;> split <;> omega

theorem ginv : ∀ k, k ≤ n → GInv cp N es I k := by
  intro k
  induction k with
  | zero => intro _; exact ⟨fun w => by show (0 : Int) ≤ 1; omega, fun _ _ => rfl, fun _ _ _ _ _ _ _ => rfl⟩
  | succ k ih => intro hk; exact ginv_step hcp he hI hu (by omega) (ih (by omega))
end
end Go.Proofs.YtpdppjngbbkbbaaDoor
namespace Go.Proofs.YtpdppjngbbkbbaaDoor
open Go.RowKit

theorem upTo_has (a x : Int) {c j : Nat} (h : j < c) : (⟨a + (j : Int), x, 0, 0⟩ : Ed) ∈ upTo a x c := by
  induction c with
  | zero => omega
  | succ c ih =>
    simp only [upTo, List.mem_append, List.mem_singleton]
    by_cases e : j = c
    · subst e; exact .inr rfl
    · exact .inl (ih (by omega))
theorem dnTo_has (x a : Int) {c j : Nat} (h : j < c) : (⟨x, a + (j : Int), 0, 0⟩ : Ed) ∈ dnTo x a c := by
  induction c with
  | zero => omega
  | succ c ih =>
    simp only [dnTo, List.mem_append, List.mem_singleton]
    by_cases e : j = c
    · subst e; exact .inr rfl
    · exact .inl (ih (by omega))
theorem gadTo_sub {cp : Nat → Int} {N : Nat} {es : List Ed} {k : Nat} (hl : lp es k = false) {e : Ed} (h : e ∈ gadOf cp (edAt es k).f.toNat (edAt es k).t.toNat (szN cp N es k)) : ∀ j, e ∈ gadTo cp N es (k + 1 + j) := by
  intro j
  induction j with
  | zero =>
    rw [Nat.add_zero, gadTo_succ, if_neg (by rw [hl]; decide)]
    exact List.mem_append_right _ h
  | succ j ih =>
    rw [← Nat.add_assoc, gadTo_succ]
    split
    · exact ih
    · exact List.mem_append_left _ ih
theorem szN_mono (cp : Nat → Int) (N : Nat) (es : List Ed) (k : Nat) : ∀ j, szN cp N es k ≤ szN cp N es (k + j) := by
  intro j
  induction j with
  | zero => exact Int.le_refl _
  | succ j ih => rw [← Nat.add_assoc, szN_succ]; split <;> omega

section
variable {cp : Nat → Int} {N n : Nat} {es : List Ed} {I : Nat → Bool} (hcp : CpOk cp N) (he : EndsIn es N n) (hI : ∀ k, I k = true → lp es k = false) (hu : ∀ v, v < N → useTo es I n v ≤ cp v)
include hcp he hI hu

theorem gp_joined {gN : Nat} (hg : szN cp N es n = (gN : Int)) : ∀ k, k ≤ n → Joined (gadTo cp N es n) gN (gpTo cp N es I k) := by
  intro k
  induction k with
  | zero => intro _ p hp; cases hp
  | succ k ih =>
    intro hk p hp
    rw [gpTo_succ] at hp
    rcases List.mem_append.1 hp with hp | hp
    rotate_left
    · exact ih (by omega) p hp
    have hl : lp es k = false := by
      cases hl : lp es k with
      | false => rfl
      | true => unfold segOf at hp; rw [if_pos hl] at hp; cases hp
    obtain ⟨e1, e2, e3, e4⟩ := he k (by omega)
    have hz := szN_succ cp N es k
    rw [if_neg (by rw [hl]; decide)] at hz
    have hm := szN_mono cp N es (k + 1) (n - (k + 1))
    rw [show k + 1 + (n - (k + 1)) = n by omega] at hm
    have hx : sm cp N ≤ szN cp N es k := by unfold szN; have := (nlTo_bd es k).1; omega
    have hs0 := (hcp.sm_bd N (Nat.le_refl _)).1
    have sub : ∀ e, e ∈ gadOf cp (edAt es k).f.toNat (edAt es k).t.toNat (szN cp N es k) → e ∈ both (gadTo cp N es n) := fun e h => by
      have := gadTo_sub (N := N) hl h (n - (k + 1))
      rw [show k + 1 + (n - (k + 1)) = n by omega] at this
      exact List.mem_append_left _ this
    unfold segOf at hp
    rw [if_neg (by rw [hl]; decide)] at hp
    cases hi : I k with
    | false =>
      rw [hi, if_neg (by decide)] at hp
      obtain rfl := List.mem_singleton.1 hp
      refine ⟨⟨by simp only; omega, by simp only; omega⟩, ⟨by simp only; omega, by simp only; omega⟩, ?_⟩
      refine mem_outs' (e := ⟨szN cp N es k, szN cp N es k + 1, 0, 0⟩) (sub _ ?_) (by simp only; omega) (by simp only; omega)
      unfold gadOf
      exact List.mem_append_left _ (List.mem_append_left _ (List.mem_singleton.2 rfl))
    | true =>
      obtain ⟨⟨f0, f1⟩, t0, t1⟩ := use_room he hI hu (k := k) (by omega) hi
      have fa := (hcp.sm_step (v := (edAt es k).f.toNat) (by omega))
      have fb := (hcp.sm_step (v := (edAt es k).t.toNat) (by omega))
      rw [hi, if_pos rfl] at hp
      rcases List.mem_cons.1 hp with rfl | hp
      · refine ⟨⟨by simp only; omega, by simp only; omega⟩, ⟨by simp only; omega, by simp only; omega⟩, ?_⟩
        refine mem_outs' (e := ⟨sm cp (edAt es k).f.toNat + ((useTo es I k (edAt es k).f.toNat).toNat : Int), szN cp N es k, 0, 0⟩) (sub _ ?_) (by simp only; omega) (by simp only; omega)
        unfold gadOf
        exact List.mem_append_left _ (List.mem_append_right _ (upTo_has _ _ (by omega)))
      · obtain rfl := List.mem_singleton.1 hp
        refine ⟨⟨by simp only; omega, by simp only; omega⟩, ⟨by simp only; omega, by simp only; omega⟩, ?_⟩
        refine mem_outs' (e := ⟨szN cp N es k + 1, sm cp (edAt es k).t.toNat + ((useTo es I k (edAt es k).t.toNat).toNat : Int), 0, 0⟩) (sub _ ?_) (by simp only; omega) (by simp only; omega)
        unfold gadOf
        exact List.mem_append_right _ (dnTo_has _ _ (by omega))
end

/-- A sum over what a rising list holds. -/
theorem sm_list {o : List Int} {n : Nat} (w : Nat → Int) {lo : Nat} (ris : RiseTo o (n : Int) lo) : ∀ k, k ≤ lo → sm (fun i => if inTo o k i then w i else 0) n = sm (fun j => w (zAt o j).toNat) k := by
  intro k
  induction k with
  | zero =>
    intro _
    have : sm (fun i => if inTo o 0 i then w i else 0) n = sm (fun _ => 0) n := sm_congr fun v _ => by simp [inTo]
    rw [this, sm_zero]; rfl
  | succ k ih =>
    intro hk
    obtain ⟨r1, r2⟩ := ris.rng (j := k) (by omega)
    have e : sm (fun i => if inTo o (k + 1) i then w i else 0) n = sm (fun i => if inTo o k i then w i else 0) n + sm (fun i => if zAt o k = (i : Int) then w i else 0) n := by
      rw [← sm_add]
      refine sm_congr fun i _ => ?_
      rw [inTo_succ]
      by_cases h1 : (i : Int) = zAt o k
      · rw [if_pos h1, if_pos h1.symm, if_pos rfl]
        have : inTo o k i = false := by
          cases hi : inTo o k i with
          | false => rfl
          | true =>
            obtain ⟨j, hj, t⟩ := inTo_iff.1 hi
            have := ris.lt hj (by omega)
            omega
        rw [this]; simp
      · rw [if_neg h1, if_neg (show ¬ zAt o k = (i : Int) from fun t => h1 t.symm)]; omega
    rw [e, ih (by omega), sm_pick w (zAt o k) n r1 r2, sm_succ]

theorem use_sum (es : List Ed) (I : Nat → Bool) (v : Nat) : ∀ k, useTo es I k v = sm (fun i => if I i then (if (edAt es i).f = (v : Int) then 1 else 0) + (if (edAt es i).t = (v : Int) then 1 else 0) else 0) k := by
  intro k
  induction k with
  | zero => rfl
  | succ k ih => rw [useTo_succ, sm_succ, ih]; split <;> omega
theorem tak_sum (es : List Ed) (o : List Int) (v : Nat) : ∀ k, takTo es o k v = sm (fun j => (if (edAt es (zAt o j).toNat).f = (v : Int) then 1 else 0) + (if (edAt es (zAt o j).toNat).t = (v : Int) then 1 else 0)) k := by
  intro k
  induction k with
  | zero => rfl
  | succ k ih =>
    rw [takTo_succ, sm_succ, ih]
    show (_ + if (edAt es (zAt o k).toNat).f = (v : Int) then (1 : Int) else 0) + (if (edAt es (zAt o k).toNat).t = (v : Int) then 1 else 0) = _
    omega
theorem use_ends {es : List Ed} {I : Nat → Bool} (hI : ∀ k, I k = true → lp es k = false) (v : Nat) : ∀ k, useTo es I k v ≤ endTo es k v := by
  intro k
  induction k with
  | zero => exact Int.le_refl _
  | succ k ih =>
    rw [useTo_succ, endTo_succ]
    cases hi : I k with
    | true => rw [hI k hi]; simp only [if_true, Bool.false_eq_true, if_false]; omega
    | false =>
      simp only [Bool.false_eq_true, if_false]
      split
      · exact ih
      · split <;> split <;> omega

/-- What Many proves. -/
theorem many_le {es : List Ed} {N n : Nat} (RG : Right N n es) {b : List Int} {mb : Nat} (hB : BndOk b mb N) {m : List Int} {lm : Nat} {x : List Int} {lx : Nat} (hM : ManOk es n N b m lm x lx) {o : List Int} {lo : Nat} (hO : TakOk es n N b o lo) : (lo : Int) ≤ (lm : Int) := by
  have hcp : CpOk (cpyOf es n b) N := fun v hv => cpyOf_bd RG.edges hB hv
  have hI' : ∀ k, k < n → inTo o lo k = true → lp es k = false := fun k _ hk => by
    obtain ⟨j, hj, e⟩ := inTo_iff.1 hk
    have := hO.2.1 j hj
    unfold frm tto at this
    rw [e, Int.toNat_natCast] at this
    unfold lp
    rw [beq_eq_false_iff_ne]
    exact this
  have hI : ∀ k, inTo o lo k = true → lp es k = false := fun k hk => by
    obtain ⟨j, hj, e⟩ := inTo_iff.1 hk
    have r := hO.1.rng hj
    exact hI' k (by omega) hk
  have ut : ∀ v, useTo es (inTo o lo) n v = takTo es o lo v := fun v => by
    rw [use_sum, tak_sum]
    exact sm_list (fun i => (if (edAt es i).f = (v : Int) then 1 else 0) + (if (edAt es i).t = (v : Int) then 1 else 0)) hO.1 lo (Nat.le_refl _)
  have hu : ∀ v, v < N → useTo es (inTo o lo) n v ≤ cpyOf es n b v := fun v hv => by
    have a := hO.2.2 v hv
    have c := use_ends hI v n
    rw [← ut v] at a
    unfold cpyOf
    split <;> omega
  obtain ⟨-, -, h3⟩ := hM
  have g0 := (szN_bd (es := es) hcp RG.nodes (k := n) RG.edges).1
  obtain ⟨gN, hgN⟩ : ∃ gN : Nat, szN (cpyOf es n b) N es n = (gN : Int) := ⟨(szN (cpyOf es n b) N es n).toNat, by omega⟩
  rw [hgN, Int.toNat_natCast] at h3
  have hrg := gadTo_mem hcp RG.ends n (Nat.le_refl _)
  rw [hgN] at hrg
  have bar := barrierP hrg (gp_joined hcp RG.ends hI hu hgN n (Nat.le_refl _)) (fun v _ => (ginv hcp RG.ends hI hu n (Nat.le_refl _)).1 v) (x := x) (lx := lx)
  have len := gpTo_len (cp := cpyOf es n b) (N := N) hI n
  have cnt : sm (fun j => if inTo o lo j then (1 : Int) else 0) n = (lo : Int) := by
    rw [sm_list (fun _ => 1) hO.1 lo (Nat.le_refl _), sm_one]
  rw [cnt] at len
  omega
end Go.Proofs.YtpdppjngbbkbbaaDoor
