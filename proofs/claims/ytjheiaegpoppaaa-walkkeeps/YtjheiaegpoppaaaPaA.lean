/- Parts: the mathematics. Numbers of parts; what a flood takes; parts of parts. Nothing of the program. -/
import Derived.Test.YtjheiaegpoppaaaWkR
namespace Go.Proofs.Ytjheiaegpoppaaa

/-- The numbers of parts, in the order of their least nodes; how many there are among the first. -/
structure NumOf (n : Nat) (R : Nat → Nat → Prop) (c : Nat → Int) (cnt : Nat → Int) : Prop where
  zero : cnt 0 = 0
  new : ∀ v, v < n → (∀ u, u < v → ¬ R u v) → c v = cnt v ∧ cnt (v + 1) = cnt v + 1
  old : ∀ v, v < n → ∀ u, u < v → R u v → c v = c u ∧ cnt (v + 1) = cnt v

theorem NumOf.uniq {n : Nat} {R : Nat → Nat → Prop} {c c' cnt cnt' : Nat → Int} (h : NumOf n R c cnt) (h' : NumOf n R c' cnt') : ∀ v, v ≤ n → cnt v = cnt' v ∧ ∀ u, u < v → c u = c' u := by
  intro v
  induction v with
  | zero => intro _; exact ⟨h.zero.trans h'.zero.symm, fun u hu => absurd hu (Nat.not_lt_zero _)⟩
  | succ v ih =>
    intro hv
    obtain ⟨e, ec⟩ := ih (by omega)
    by_cases hx : ∃ u, u < v ∧ R u v
    · obtain ⟨u, hu, hr⟩ := hx
      have a := h.old v (by omega) u hu hr
      have b := h'.old v (by omega) u hu hr
      refine ⟨by rw [a.2, b.2, e], fun x hx => ?_⟩
      by_cases ex : x = v
      · rw [ex, a.1, b.1, ec u hu]
      · exact ec x (by omega)
    · have hn : ∀ u, u < v → ¬ R u v := fun u hu hr => hx ⟨u, hu, hr⟩
      have a := h.new v (by omega) hn
      have b := h'.new v (by omega) hn
      refine ⟨by rw [a.2, b.2, e], fun x hx => ?_⟩
      by_cases ex : x = v
      · rw [ex, a.1, b.1, e]
      · exact ec x (by omega)

theorem NumOf.congr {n : Nat} {R R' : Nat → Nat → Prop} {c cnt : Nat → Int} (h : NumOf n R c cnt) (hr : ∀ u v, u < n → v < n → (R u v ↔ R' u v)) : NumOf n R' c cnt :=
  ⟨h.zero, fun v hv hn => h.new v hv (fun u hu r => hn u hu ((hr u v (by omega) hv).1 r)), fun v hv u hu r => h.old v hv u hu ((hr u v (by omega) hv).2 r)⟩

/-- The numbers are from 0 on, each below its count; equal just within a part. -/
theorem NumOf.facts {n : Nat} {R : Nat → Nat → Prop} {c cnt : Nat → Int} (h : NumOf n R c cnt) (symm : ∀ u v, u < n → v < n → R u v → R v u) (trans : ∀ u v x, u < n → v < n → x < n → R u v → R v x → R u x) (refl : ∀ u, u < n → R u u) :
    ∀ v, v ≤ n → (0 ≤ cnt v ∧ cnt v ≤ (v : Int)) ∧ (∀ u, u < v → 0 ≤ c u ∧ c u < cnt v) ∧ ∀ u x, u < v → x < v → (c u = c x ↔ R u x) := by
  intro v
  induction v with
  | zero => intro _; exact ⟨⟨by rw [h.zero]; omega, by rw [h.zero]; omega⟩, fun u hu => absurd hu (Nat.not_lt_zero _), fun u x hu => absurd hu (Nat.not_lt_zero _)⟩
  | succ v ih =>
    intro hv
    obtain ⟨i0, i1, i2⟩ := ih (by omega)
    by_cases hx : ∃ u, u < v ∧ R u v
    · obtain ⟨w, hw, hr⟩ := hx
      have a := h.old v (by omega) w hw hr
      refine ⟨by rw [a.2]; omega, fun u hu => ?_, fun u x hu hx => ?_⟩
      · rw [a.2]
        by_cases e : u = v
        · rw [e, a.1]; exact i1 w hw
        · exact i1 u (by omega)
      · by_cases eu : u = v
        · by_cases ex : x = v
          · rw [eu, ex]; exact ⟨fun _ => refl v (by omega), fun _ => rfl⟩
          · rw [eu, a.1, i2 w x hw (by omega)]
            exact ⟨fun t => trans v w x (by omega) (by omega) (by omega) (symm w v (by omega) (by omega) hr) t, fun t => trans w v x (by omega) (by omega) (by omega) hr t⟩
        · by_cases ex : x = v
          · rw [ex, a.1, i2 u w (by omega) hw]
            exact ⟨fun t => trans u w v (by omega) (by omega) (by omega) t hr, fun t => trans u v w (by omega) (by omega) (by omega) t (symm w v (by omega) (by omega) hr)⟩
          · exact i2 u x (by omega) (by omega)
    · have hn : ∀ u, u < v → ¬ R u v := fun u hu hr => hx ⟨u, hu, hr⟩
      have a := h.new v (by omega) hn
      refine ⟨by rw [a.2]; omega, fun u hu => ?_, fun u x hu hx => ?_⟩
      · rw [a.2]
        by_cases e : u = v
        · rw [e, a.1]; omega
        · have := i1 u (by omega); omega
      · by_cases eu : u = v
        · by_cases ex : x = v
          · rw [eu, ex]; exact ⟨fun _ => refl v (by omega), fun _ => rfl⟩
          · have := i1 x (by omega)
            rw [eu, a.1]
            exact ⟨fun t => by omega, fun t => absurd (symm v x (by omega) (by omega) t) (hn x (by omega))⟩
        · by_cases ex : x = v
          · have := i1 u (by omega)
            rw [ex, a.1]
            exact ⟨fun t => by omega, fun t => absurd t (hn u (by omega))⟩
          · exact i2 u x (by omega) (by omega)

/-- What can be come to from r outside of A. -/
inductive Off (L : Nat → List Nat) (A : Nat → Prop) (r : Nat) : Nat → Prop
  | refl : Off L A r r
  | step {v x : Nat} : Off L A r v → x ∈ L v → ¬ A x → Off L A r x

theorem Off.way {L : Nat → List Nat} {A : Nat → Prop} {r x : Nat} (h : Off L A r x) : Way L r x := by
  induction h with
  | refl => exact Way.refl r
  | step _ hx _ ih => exact ih.step hx

def natL (L : Nat → List Int) : Nat → List Nat := fun v => (L v).map Int.toNat
/-- The name that a flood from r gives. -/
def cval (r : Nat) : (Nat → Int) → Nat → Int := fun _ _ => (r : Int)

structure FInv (L : Nat → List Int) (p : Nat → Int) (r k : Nat) (S : Fl) : Prop where
  keep : ∀ x, x ∉ S.q → S.lv x = p x
  val : ∀ x ∈ S.q, S.lv x = (r : Int)
  off : ∀ x ∈ S.q, p x < 0 ∧ Off (natL L) (fun x => 0 ≤ p x) r x
  rin : r ∈ S.q
  len : k ≤ S.q.length
  done : ∀ j, j < k → ∀ t ∈ L (S.q.getD j 0), 0 ≤ S.lv t.toNat

theorem FInv.entF {L : Nat → List Int} {p : Nat → Int} {r k : Nat} {S : Fl} (h : FInv L p r k S) {v : Nat} (hv : v ∈ S.q) {t : Int} (ht : t ∈ L v) :
    FInv L p r k (ent (cval r) v S t) ∧ (∀ x, 0 ≤ S.lv x → 0 ≤ (ent (cval r) v S t).lv x) ∧ 0 ≤ (ent (cval r) v S t).lv t.toNat ∧ ∃ z, (ent (cval r) v S t).q = S.q ++ z := by
  by_cases hc : S.lv t.toNat < 0
  · have eq : (ent (cval r) v S t).q = S.q ++ [t.toNat] := by unfold Go.Proofs.Ytjheiaegpoppaaa.ent; rw [if_pos hc]
    have el : (ent (cval r) v S t).lv = fun j => if j = t.toNat then (r : Int) else S.lv j := by unfold Go.Proofs.Ytjheiaegpoppaaa.ent; rw [if_pos hc]; rfl
    have hnq : t.toNat ∉ S.q := fun hm => by rw [h.val _ hm] at hc; omega
    have hmono : ∀ x, 0 ≤ S.lv x → 0 ≤ (ent (cval r) v S t).lv x := fun x hx => by
      rw [el]; dsimp only
      split <;> omega
    have hlast : 0 ≤ (ent (cval r) v S t).lv t.toNat := by rw [el]; dsimp only; rw [if_pos rfl]; omega
    refine ⟨⟨fun x hx => ?_, fun x hx => ?_, fun x hx => ?_, ?_, ?_, fun j hj u hu => ?_⟩, hmono, hlast, [t.toNat], eq⟩
    · rw [eq, List.mem_append, List.mem_singleton] at hx
      have hx1 : x ∉ S.q := fun t => hx (.inl t)
      have hx2 : ¬ x = t.toNat := fun t => hx (.inr t)
      rw [el]; dsimp only; rw [if_neg hx2]; exact h.keep x hx1
    · rw [eq, List.mem_append, List.mem_singleton] at hx
      rw [el]; dsimp only
      by_cases e : x = t.toNat
      · rw [if_pos e]
      · rw [if_neg e]; exact h.val x (hx.resolve_right e)
    · rw [eq, List.mem_append, List.mem_singleton] at hx
      rcases hx with hx | hx
      · exact h.off x hx
      · subst hx
        have hp : p t.toNat < 0 := by rw [← h.keep _ hnq]; exact hc
        refine ⟨hp, (h.off v hv).2.step ?_ (by omega)⟩
        unfold natL
        exact List.mem_map.2 ⟨t, ht, rfl⟩
    · rw [eq, List.mem_append]; exact .inl h.rin
    · rw [eq, List.length_append]; have := h.len; omega
    · have hjl : j < S.q.length := by have := h.len; omega
      have e : (ent (cval r) v S t).q.getD j 0 = S.q.getD j 0 := by
        rw [eq]; simp [List.getD, List.getElem?_append_left hjl]
      rw [e] at hu
      exact hmono _ (h.done j hj u hu)
  · have e : ent (cval r) v S t = S := by unfold Go.Proofs.Ytjheiaegpoppaaa.ent; rw [if_neg hc]
    rw [e]
    exact ⟨h, fun _ t => t, by omega, [], by simp⟩

theorem FInv.fold {L : Nat → List Int} {p : Nat → Int} {r k v : Nat} (ts : List Int) : ∀ {S : Fl}, FInv L p r k S → v ∈ S.q → (∀ t ∈ ts, t ∈ L v) →
    FInv L p r k (ts.foldl (Go.Proofs.Ytjheiaegpoppaaa.ent (cval r) v) S) ∧ (∀ x, 0 ≤ S.lv x → 0 ≤ (ts.foldl (Go.Proofs.Ytjheiaegpoppaaa.ent (cval r) v) S).lv x) ∧ (∀ t ∈ ts, 0 ≤ (ts.foldl (Go.Proofs.Ytjheiaegpoppaaa.ent (cval r) v) S).lv t.toNat) ∧ ∃ z, (ts.foldl (Go.Proofs.Ytjheiaegpoppaaa.ent (cval r) v) S).q = S.q ++ z := by
  induction ts with
  | nil => intro S h _ _; exact ⟨h, (fun _ t => t), (fun t ht => absurd ht List.not_mem_nil), [], by simp⟩
  | cons t ts ih =>
    intro S h hv ht
    obtain ⟨a, b, c, z, e⟩ := h.entF hv (ht t (by simp))
    obtain ⟨a', b', c', z', e'⟩ := ih a (by rw [e]; exact List.mem_append.2 (.inl hv)) (fun x hx => ht x (by simp [hx]))
    refine ⟨a', fun x hx => b' x (b x hx), fun x hx => ?_, z ++ z', by rw [List.foldl_cons, e', e, List.append_assoc]⟩
    rcases List.mem_cons.1 hx with rfl | hx
    · exact b' _ c
    · exact c' x hx

theorem FInv.step {L : Nat → List Int} {p : Nat → Int} {r k : Nat} {s0 : Fl} (h : FInv L p r k (it L (cval r) s0 k)) (hk : k < (it L (cval r) s0 k).q.length) : FInv L p r (k + 1) (it L (cval r) s0 (k + 1)) := by
  have hm : (it L (cval r) s0 k).q.getD k 0 ∈ (it L (cval r) s0 k).q := by simp [List.getD, hk]
  obtain ⟨a, b, c, z, e⟩ := FInv.fold (L ((it L (cval r) s0 k).q.getD k 0)) h hm (fun t ht => ht)
  have eit : it L (cval r) s0 (k + 1) = (L ((it L (cval r) s0 k).q.getD k 0)).foldl (Go.Proofs.Ytjheiaegpoppaaa.ent (cval r) ((it L (cval r) s0 k).q.getD k 0)) (it L (cval r) s0 k) := rfl
  rw [← eit] at a c e
  refine ⟨a.keep, a.val, a.off, a.rin, by rw [e, List.length_append]; omega, fun j hj t ht => ?_⟩
  by_cases ej : j = k
  · subst ej
    have e2 : (it L (cval r) s0 (j + 1)).q.getD j 0 = (it L (cval r) s0 j).q.getD j 0 := by rw [e]; simp [List.getD, List.getElem?_append_left hk]
    rw [e2] at ht
    exact c t ht
  · exact a.done j (by omega) t ht

/-- Behind a flood from r. -/
structure Flooded (L : Nat → List Int) (p : Nat → Int) (r : Nat) (lv : Nat → Int) : Prop where
  yes : ∀ x, p x < 0 → Off (natL L) (fun x => 0 ≤ p x) r x → lv x = (r : Int)
  no : ∀ x, ¬ (p x < 0 ∧ Off (natL L) (fun x => 0 ≤ p x) r x) → lv x = p x

theorem flooded_of {L : Nat → List Int} {p : Nat → Int} {r : Nat} (hp : p r < 0) {K : Nat} (hK : ∀ j, j < K → j < (it L (cval r) ⟨[r], fun j => if j = r then (r : Int) else p j⟩ j).q.length) (hE : (it L (cval r) ⟨[r], fun j => if j = r then (r : Int) else p j⟩ K).q.length = K) :
    Flooded L p r (it L (cval r) ⟨[r], fun j => if j = r then (r : Int) else p j⟩ K).lv := by
  obtain ⟨s0, hs0⟩ : ∃ s0 : Fl, s0 = ⟨[r], fun j => if j = r then (r : Int) else p j⟩ := ⟨_, rfl⟩
  rw [← hs0] at hK hE ⊢
  have st : FInv L p r 0 (it L (cval r) s0 0) := by
    show FInv L p r 0 s0
    rw [hs0]
    refine ⟨fun x hx => ?_, fun x hx => ?_, fun x hx => ?_, by simp, Nat.zero_le _, fun j hj => absurd hj (Nat.not_lt_zero _)⟩
    · simp only [List.mem_singleton] at hx; dsimp only; rw [if_neg hx]
    · simp only [List.mem_singleton] at hx; dsimp only; rw [if_pos hx]
    · simp only [List.mem_singleton] at hx; rw [hx]; exact ⟨hp, .refl⟩
  have all : ∀ k, k ≤ K → FInv L p r k (it L (cval r) s0 k) := by
    intro k
    induction k with
    | zero => intro _; exact st
    | succ k ih => intro hk; exact (ih (by omega)).step (hK k (by omega))
  have F := all K (Nat.le_refl _)
  have into : ∀ x, Off (natL L) (fun x => 0 ≤ p x) r x → x ∈ (it L (cval r) s0 K).q := by
    intro x hx
    induction hx with
    | refl => exact F.rin
    | step hv hx hn ih =>
      obtain ⟨j, hj, e⟩ := List.getElem_of_mem ih
      unfold natL at hx
      obtain ⟨t, ht, rfl⟩ := List.mem_map.1 hx
      have e2 : (it L (cval r) s0 K).q.getD j 0 = (it L (cval r) s0 K).q[j] := by simp [List.getD, hj]
      have hd := F.done j (by omega) t (by rw [e2, e]; exact ht)
      apply Classical.byContradiction
      intro hnq
      rw [F.keep _ hnq] at hd
      exact hn hd
  refine ⟨fun x _ ho => F.val x (into x ho), fun x hn => F.keep x (fun hq => hn (F.off x hq))⟩

open Classical in
/-- One root more. -/
noncomputable def pstep (L : Nat → List Nat) (p : Nat → Int) (r : Nat) : Nat → Int := fun x => if p r < 0 ∧ p x < 0 ∧ Off L (fun x => 0 ≤ p x) r x then (r : Int) else p x
/-- Behind the first k roots. -/
noncomputable def pf (L : Nat → List Nat) (ρ : Nat → Nat) : Nat → Nat → Int
  | 0 => fun _ => -1
  | k + 1 => pstep L (pf L ρ k) (ρ k)

theorem pstep_old {L : Nat → List Nat} {p : Nat → Int} {r : Nat} (h : ¬ p r < 0) : pstep L p r = p := by
  funext x
  unfold pstep
  rw [if_neg (fun t => h t.1)]
theorem Flooded.pstep {L : Nat → List Int} {p : Nat → Int} {r : Nat} {lv : Nat → Int} (h : Flooded L p r lv) (hr : p r < 0) : ∀ x, lv x = Go.Proofs.Ytjheiaegpoppaaa.pstep (natL L) p r x := fun x => by
  unfold Go.Proofs.Ytjheiaegpoppaaa.pstep
  by_cases c : p x < 0 ∧ Off (natL L) (fun x => 0 ≤ p x) r x
  · rw [if_pos ⟨hr, c⟩]; exact h.yes x c.1 c.2
  · rw [if_neg (fun t => c t.2)]; exact h.no x c

/-- Parts behind the first roots: each is one class. -/
structure PInv (n : Nat) (R : Nat → Nat → Prop) (ρ : Nat → Nat) (k : Nat) (p : Nat → Int) : Prop where
  cl : ∀ x y, x < n → y < n → 0 ≤ p x → R x y → p y = p x
  inn : ∀ x y, x < n → y < n → 0 ≤ p x → p x = p y → R x y
  name : ∀ x, x < n → 0 ≤ p x → ∃ a : Nat, p x = (a : Int) ∧ a < n ∧ 0 ≤ p a
  roots : ∀ j, j < k → 0 ≤ p (ρ j)
  low : ∀ x, -1 ≤ p x

theorem pf_inv {n : Nat} {L : Nat → List Nat} {R : Nat → Nat → Prop} {ρ : Nat → Nat} (hρ : ∀ j, j < n → ρ j < n) (symm : ∀ u v, u < n → v < n → R u v → R v u) (trans : ∀ u v x, u < n → v < n → x < n → R u v → R v x → R u x) (refl : ∀ u, u < n → R u u)
    (H : ∀ k, k < n → PInv n R ρ k (pf L ρ k) → pf L ρ k (ρ k) < 0 → ∀ x, x < n → pf L ρ k x < 0 → (Off L (fun x => 0 ≤ pf L ρ k x) (ρ k) x ↔ R (ρ k) x)) : ∀ k, k ≤ n → PInv n R ρ k (pf L ρ k) := by
  intro k
  induction k with
  | zero =>
    intro _
    refine ⟨fun x y _ _ h => ?_, fun x y _ _ h => ?_, fun x _ h => ?_, fun j hj => absurd hj (Nat.not_lt_zero _), fun _ => by show (-1 : Int) ≤ -1; omega⟩
    all_goals
      have : (0 : Int) ≤ -1 := h
      omega
  | succ k ih =>
    intro hk
    have P := ih (by omega)
    by_cases hr : pf L ρ k (ρ k) < 0
    · have HH := H k (by omega) P hr
      have hrn := hρ k (by omega)
      have yes : ∀ x, x < n → pf L ρ k x < 0 → R (ρ k) x → pf L ρ (k + 1) x = (ρ k : Int) := fun x hx h1 h2 => by
        show pstep L (pf L ρ k) (ρ k) x = _
        unfold pstep
        rw [if_pos ⟨hr, h1, (HH x hx h1).2 h2⟩]
      have no : ∀ x, x < n → ¬ (pf L ρ k x < 0 ∧ R (ρ k) x) → pf L ρ (k + 1) x = pf L ρ k x := fun x hx h => by
        show pstep L (pf L ρ k) (ρ k) x = _
        unfold pstep
        rw [if_neg (fun t => h ⟨t.2.1, (HH x hx t.2.1).1 t.2.2⟩)]
      have neg : ∀ x, x < n → R (ρ k) x → pf L ρ k x < 0 := fun x hx h => by
        apply Classical.byContradiction
        intro hh
        have := P.cl x (ρ k) hx hrn (by omega) (symm _ _ hrn hx h)
        omega
      refine ⟨fun x y hx hy h hR => ?_, fun x y hx hy h e => ?_, fun x hx h => ?_, fun j hj => ?_, fun x => ?_⟩
      · by_cases c : R (ρ k) x
        · have c2 := trans _ _ _ hrn hx hy c hR
          rw [yes x hx (neg x hx c) c, yes y hy (neg y hy c2) c2]
        · have c2 : ¬ R (ρ k) y := fun t => c (trans _ _ _ hrn hy hx t (symm _ _ hx hy hR))
          rw [no x hx (fun t => c t.2)] at h ⊢
          rw [no y hy (fun t => c2 t.2)]
          exact P.cl x y hx hy h hR
      · by_cases c : R (ρ k) x
        · by_cases c2 : R (ρ k) y
          · exact trans _ _ _ hx hrn hy (symm _ _ hrn hx c) c2
          · rw [yes x hx (neg x hx c) c, no y hy (fun t => c2 t.2)] at e
            obtain ⟨a, ea, ha, hpa⟩ := P.name y hy (by omega)
            have : a = ρ k := by omega
            subst this
            omega
        · rw [no x hx (fun t => c t.2)] at h e
          by_cases c2 : R (ρ k) y
          · rw [yes y hy (neg y hy c2) c2] at e
            obtain ⟨a, ea, ha, hpa⟩ := P.name x hx h
            have : a = ρ k := by omega
            subst this
            omega
          · rw [no y hy (fun t => c2 t.2)] at e
            exact P.inn x y hx hy h e
      · by_cases c : R (ρ k) x
        · exact ⟨ρ k, yes x hx (neg x hx c) c, hrn, by rw [yes _ hrn hr (refl _ hrn)]; omega⟩
        · rw [no x hx (fun t => c t.2)] at h ⊢
          obtain ⟨a, ea, ha, hpa⟩ := P.name x hx h
          refine ⟨a, ea, ha, ?_⟩
          by_cases c2 : R (ρ k) a
          · rw [yes a ha (neg a ha c2) c2]; omega
          · rw [no a ha (fun t => c2 t.2)]; exact hpa
      · by_cases e : j = k
        · subst e; rw [yes _ hrn hr (refl _ hrn)]; omega
        · have := P.roots j (by omega)
          rw [no _ (hρ j (by omega)) (fun t => by omega)]; exact this
      · show -1 ≤ pstep L (pf L ρ k) (ρ k) x
        unfold pstep
        split
        · omega
        · exact P.low x
    · have e : pf L ρ (k + 1) = pf L ρ k := pstep_old hr
      rw [e]
      refine ⟨P.cl, P.inn, P.name, fun j hj => ?_, P.low⟩
      by_cases ej : j = k
      · subst ej; omega
      · exact P.roots j (by omega)
end Go.Proofs.Ytjheiaegpoppaaa
