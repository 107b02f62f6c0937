/- Going into the depth: the mathematics. Nothing of the program. -/
import Derived.Test.YtjheiaegpoppaaaWkC
namespace Go.Proofs.Ytjheiaegpoppaaa

/-- When nodes were come to and left (below 0: not yet), and the time. -/
structure Tm where
  pre : Nat → Int
  post : Nat → Int
  clk : Nat

def Tm.ent (s : Tm) (v : Nat) : Tm := ⟨fun j => if j = v then (s.clk : Int) else s.pre j, s.post, s.clk + 1⟩
def Tm.lv (s : Tm) (v : Nat) : Tm := ⟨s.pre, fun j => if j = v then (s.clk : Int) else s.post j, s.clk + 1⟩

/-- Going into the depth along a row of nodes. -/
def rowF (L : Nat → List Nat) : Nat → Tm → List Nat → Tm
  | _, s, [] => s
  | 0, s, t :: ts => if s.pre t < 0 then s else rowF L 0 s ts
  | f + 1, s, t :: ts => if s.pre t < 0 then rowF L (f + 1) ((rowF L f (s.ent t) (L t)).lv t) ts else rowF L (f + 1) s ts
termination_by f _ ts => (f, ts.length)

theorem rowF_nil (L : Nat → List Nat) (f : Nat) (s : Tm) : rowF L f s [] = s := by cases f <;> simp [rowF]
theorem rowF_old (L : Nat → List Nat) (f : Nat) (s : Tm) (t : Nat) (ts : List Nat) (h : ¬ s.pre t < 0) : rowF L f s (t :: ts) = rowF L f s ts := by cases f <;> simp [rowF, h]
theorem rowF_new (L : Nat → List Nat) (f : Nat) (s : Tm) (t : Nat) (ts : List Nat) (h : s.pre t < 0) : rowF L (f + 1) s (t :: ts) = rowF L (f + 1) ((rowF L f (s.ent t) (L t)).lv t) ts := by simp [rowF, h]

/-- There is a way. -/
inductive Way (L : Nat → List Nat) : Nat → Nat → Prop
  | refl (u : Nat) : Way L u u
  | step {u v x : Nat} : Way L u v → x ∈ L v → Way L u x

theorem Way.trans {L : Nat → List Nat} {a b c : Nat} (h : Way L a b) (k : Way L b c) : Way L a c := by
  induction k with
  | refl => exact h
  | step _ hx ih => exact ih.step hx

/-- How many nodes have not been come to. -/
def Un (n : Nat) (s : Tm) : Nat := ((List.range n).filter fun v => decide (s.pre v < 0)).length

theorem filter_le {α : Type} (p q : α → Bool) (l : List α) (h : ∀ x ∈ l, p x = true → q x = true) : (l.filter p).length ≤ (l.filter q).length := by
  induction l with
  | nil => simp
  | cons a l ih =>
    have ih := ih (fun x hx => h x (by simp [hx]))
    have ha := h a (by simp)
    simp only [List.filter_cons]
    cases hp : p a <;> cases hq : q a <;> simp_all <;> omega

theorem filter_lt {α : Type} (p q : α → Bool) (l : List α) (h : ∀ x ∈ l, p x = true → q x = true) {a : α} (ha : a ∈ l) (h1 : p a = false) (h2 : q a = true) : (l.filter p).length < (l.filter q).length := by
  induction l with
  | nil => cases ha
  | cons b l ih =>
    have hb := h b (by simp)
    have hl := filter_le p q l (fun x hx => h x (by simp [hx]))
    simp only [List.filter_cons]
    rcases List.mem_cons.1 ha with rfl | hm
    · rw [h1, h2]; simp; omega
    · have := ih (fun x hx => h x (by simp [hx])) hm
      cases hp : p b <;> cases hq : q b <;> simp_all <;> omega

theorem Un.le (n : Nat) (s : Tm) : Un n s ≤ n := by
  have := List.length_filter_le (fun v => decide (s.pre v < 0)) (List.range n)
  unfold Un
  simpa using this

theorem Un.mono {n : Nat} {s s' : Tm} (h : ∀ v, 0 ≤ s.pre v → 0 ≤ s'.pre v) : Un n s' ≤ Un n s := by
  unfold Un
  apply filter_le
  intro x _ hx
  have := h x
  simp only [decide_eq_true_eq] at hx ⊢
  omega

theorem Un.ent {n : Nat} {s : Tm} {t : Nat} (ht : t < n) (h : s.pre t < 0) : Un n (s.ent t) < Un n s := by
  unfold Un
  refine filter_lt _ _ _ (fun x _ hx => ?_) (a := t) (by simpa using ht) (by simp [Tm.ent]) (by simpa using h)
  have hx' : (s.ent t).pre x < 0 := of_decide_eq_true hx
  refine decide_eq_true ?_
  by_cases e : x = t
  · rw [e]; exact h
  · have e2 : (s.ent t).pre x = s.pre x := by simp [Tm.ent, e]
    rw [← e2]; exact hx'

/-- What has become of the times. -/
structure Grew (L : Nat → List Nat) (s s' : Tm) : Prop where
  clk : s.clk ≤ s'.clk
  old : ∀ v, 0 ≤ s.pre v → s'.pre v = s.pre v ∧ s'.post v = s.post v
  new : ∀ v, s.pre v < 0 → 0 ≤ s'.pre v → (s.clk : Int) ≤ s'.pre v ∧ s'.pre v < s'.post v ∧ s'.post v < (s'.clk : Int)
  rest : ∀ v, s'.pre v < 0 → s'.pre v = s.pre v ∧ s'.post v = s.post v
  apart : ∀ u v, s.pre u < 0 → 0 ≤ s'.pre u → s.pre v < 0 → 0 ≤ s'.pre v → u ≠ v → s'.pre u ≠ s'.pre v ∧ s'.post u ≠ s'.post v ∧ s'.pre u ≠ s'.post v
  nest : ∀ u v, s.pre u < 0 → 0 ≤ s'.pre u → s.pre v < 0 → 0 ≤ s'.pre v → s'.pre u < s'.pre v → s'.pre v < s'.post u → s'.post v < s'.post u
  edge : ∀ u, s.pre u < 0 → 0 ≤ s'.pre u → ∀ x ∈ L u, 0 ≤ s'.pre x ∧ s'.pre x < s'.post u
  desc : ∀ u v, s.pre u < 0 → 0 ≤ s'.pre u → s.pre v < 0 → 0 ≤ s'.pre v → s'.pre u ≤ s'.pre v → s'.post v ≤ s'.post u → Way L u v

theorem Grew.refl (L : Nat → List Nat) (s : Tm) : Grew L s s :=
  ⟨Nat.le_refl _, fun _ _ => ⟨rfl, rfl⟩, fun v h h' => by omega, fun _ _ => ⟨rfl, rfl⟩, fun u v h h' => by omega, fun u v h h' => by omega, fun u h h' => by omega, fun u v h h' => by omega⟩

theorem Grew.keeps {L : Nat → List Nat} {s s' : Tm} (h : Grew L s s') {v : Nat} (hv : 0 ≤ s.pre v) : 0 ≤ s'.pre v := by rw [(h.old v hv).1]; exact hv

theorem Grew.trans {L : Nat → List Nat} {a b c : Tm} (h : Grew L a b) (k : Grew L b c) : Grew L a c := by
  -- a node that is new behind both: it was new behind the first, with its times, or is new behind the second
  have two : ∀ v, a.pre v < 0 → 0 ≤ c.pre v → (0 ≤ b.pre v ∧ c.pre v = b.pre v ∧ c.post v = b.post v ∧ (a.clk : Int) ≤ c.pre v ∧ c.pre v < c.post v ∧ c.post v < (b.clk : Int)) ∨ (b.pre v < 0 ∧ (b.clk : Int) ≤ c.pre v ∧ c.pre v < c.post v ∧ c.post v < (c.clk : Int)) := fun v h1 h2 => by
    by_cases hb : 0 ≤ b.pre v
    · have := h.new v h1 hb
      have e := k.old v hb
      refine .inl ⟨hb, e.1, e.2, ?_⟩
      rw [e.1, e.2]; exact this
    · exact .inr ⟨by omega, k.new v (by omega) h2⟩
  have hc := h.clk
  have kc := k.clk
  refine ⟨by omega, fun v hv => ?_, fun v h1 h2 => ?_, fun v hv => ?_, fun u v u1 u2 v1 v2 ne => ?_, fun u v u1 u2 v1 v2 l1 l2 => ?_, fun u u1 u2 x hx => ?_, fun u v u1 u2 v1 v2 l1 l2 => ?_⟩
  · have e := h.old v hv
    have e2 := k.old v (by rw [e.1]; exact hv)
    exact ⟨e2.1.trans e.1, e2.2.trans e.2⟩
  · rcases two v h1 h2 with ⟨_, _, _, q⟩ | ⟨_, q⟩ <;> omega
  · have e := k.rest v hv
    have e2 := h.rest v (by rw [← e.1]; exact hv)
    exact ⟨e.1.trans e2.1, e.2.trans e2.2⟩
  · rcases two u u1 u2 with ⟨ub, p1, p2, q⟩ | ⟨ub, q⟩ <;> rcases two v v1 v2 with ⟨vb, p3, p4, q'⟩ | ⟨vb, q'⟩
    · have := h.apart u v u1 ub v1 vb ne
      rw [p1, p2, p3, p4]; exact this
    · omega
    · omega
    · exact k.apart u v ub u2 vb v2 ne
  · rcases two u u1 u2 with ⟨ub, p1, p2, q⟩ | ⟨ub, q⟩ <;> rcases two v v1 v2 with ⟨vb, p3, p4, q'⟩ | ⟨vb, q'⟩
    · rw [p1, p3] at l1
      rw [p3, p2] at l2
      rw [p2, p4]; exact h.nest u v u1 ub v1 vb l1 l2
    · omega
    · omega
    · exact k.nest u v ub u2 vb v2 l1 l2
  · rcases two u u1 u2 with ⟨ub, p1, p2, q⟩ | ⟨ub, q⟩
    · have := h.edge u u1 ub x hx
      rw [p2, (k.old x this.1).1]; exact this
    · exact k.edge u ub u2 x hx
  · rcases two u u1 u2 with ⟨ub, p1, p2, q⟩ | ⟨ub, q⟩ <;> rcases two v v1 v2 with ⟨vb, p3, p4, q'⟩ | ⟨vb, q'⟩
    · rw [p1, p3] at l1
      rw [p2, p4] at l2
      exact h.desc u v u1 ub v1 vb l1 l2
    · omega
    · omega
    · exact k.desc u v ub u2 vb v2 l1 l2

/-- One node is visited: come to, its edges gone along, left. -/
theorem Grew.visit {L : Nat → List Nat} {s s1 : Tm} {t : Nat} (hlow : ∀ x, s.pre x < (s.clk : Int)) (ht : s.pre t < 0) (h : Grew L (s.ent t) s1) (hd : ∀ x ∈ L t, 0 ≤ s1.pre x) (hw : ∀ v, (s.ent t).pre v < 0 → 0 ≤ s1.pre v → Way L t v) : Grew L s (s1.lv t) := by
  have hc : s.clk + 1 ≤ s1.clk := h.clk
  have et : (s.ent t).pre t = (s.clk : Int) := by simp [Tm.ent]
  have en : ∀ v, v ≠ t → (s.ent t).pre v = s.pre v := fun v hv => by simp [Tm.ent, hv]
  have t1 : s1.pre t = (s.clk : Int) := by rw [(h.old t (by rw [et]; omega)).1, et]
  have p1 : ∀ v, (s1.lv t).pre v = s1.pre v := fun _ => rfl
  have q1 : (s1.lv t).post t = (s1.clk : Int) := by simp [Tm.lv]
  have qn : ∀ v, v ≠ t → (s1.lv t).post v = s1.post v := fun v hv => by simp [Tm.lv, hv]
  have two : ∀ v, v ≠ t → s.pre v < 0 → 0 ≤ s1.pre v → (s.clk : Int) + 1 ≤ s1.pre v ∧ s1.pre v < s1.post v ∧ s1.post v < (s1.clk : Int) := fun v hv a b => by
    have := h.new v (by rw [en v hv]; exact a) b
    have e : ((s.ent t).clk : Int) = (s.clk : Int) + 1 := by simp [Tm.ent]
    omega
  have ck : ((s1.lv t).clk : Int) = (s1.clk : Int) + 1 := by simp [Tm.lv]
  refine ⟨by simp [Tm.lv]; omega, fun v hv => ?_, fun v h1 h2 => ?_, fun v hv => ?_, fun u v u1 u2 v1 v2 ne => ?_, fun u v u1 u2 v1 v2 l1 l2 => ?_, fun u u1 u2 x hx => ?_, fun u v u1 u2 v1 v2 l1 l2 => ?_⟩
  · have ne : v ≠ t := fun e => by rw [e] at hv; omega
    have := h.old v (by rw [en v ne]; exact hv)
    rw [p1, qn v ne, this.1, this.2, en v ne]; exact ⟨rfl, rfl⟩
  · rw [p1] at h2 ⊢
    by_cases ne : v = t
    · subst ne; rw [q1]; omega
    · rw [qn v ne]; have := two v ne h1 h2; omega
  · rw [p1] at hv ⊢
    have ne : v ≠ t := fun e => by rw [e, t1] at hv; omega
    have := h.rest v hv
    rw [qn v ne, this.1, this.2, en v ne]; exact ⟨rfl, rfl⟩
  · rw [p1] at u2 v2 ⊢
    rw [p1]
    by_cases eu : u = t
    · subst eu
      have ev : v ≠ u := fun e => ne e.symm
      have := two v ev v1 v2
      rw [q1, qn v ev]; omega
    · have := two u eu u1 u2
      by_cases ev : v = t
      · subst ev
        rw [q1, qn u eu]; omega
      · rw [qn u eu, qn v ev]
        exact h.apart u v (by rw [en u eu]; exact u1) u2 (by rw [en v ev]; exact v1) v2 ne
  · rw [p1] at u2 v2 l1 l2
    rw [p1] at l1
    by_cases eu : u = t
    · subst eu
      by_cases ev : v = u
      · subst ev; omega
      · have := two v ev v1 v2
        rw [q1, qn v ev]; omega
    · have := two u eu u1 u2
      by_cases ev : v = t
      · subst ev; omega
      · rw [qn u eu] at l2
        rw [qn u eu, qn v ev]
        exact h.nest u v (by rw [en u eu]; exact u1) u2 (by rw [en v ev]; exact v1) v2 l1 l2
  · rw [p1] at u2 ⊢
    by_cases eu : u = t
    · subst eu
      rw [q1]
      refine ⟨hd x hx, ?_⟩
      by_cases ex : x = u
      · subst ex; omega
      · by_cases hx0 : s.pre x < 0
        · have := two x ex hx0 (hd x hx); omega
        · have e := (h.old x (by rw [en x ex]; omega)).1
          rw [en x ex] at e
          have := hlow x
          omega
    · have := h.edge u (by rw [en u eu]; exact u1) u2 x hx
      rw [qn u eu]; exact this
  · rw [p1] at u2 v2 l1
    rw [p1] at l1
    by_cases eu : u = t
    · subst eu
      by_cases ev : v = u
      · subst ev; exact Way.refl _
      · exact hw v (by rw [en v ev]; exact v1) v2
    · have := two u eu u1 u2
      by_cases ev : v = t
      · subst ev; omega
      · rw [qn u eu, qn v ev] at l2
        exact h.desc u v (by rw [en u eu]; exact u1) u2 (by rw [en v ev]; exact v1) v2 l1 l2

theorem Grew.low {L : Nat → List Nat} {s s' : Tm} (h : Grew L s s') (hl : ∀ x, s.pre x < (s.clk : Int)) : ∀ x, s'.pre x < (s'.clk : Int) := fun x => by
  have hc := h.clk
  by_cases h1 : 0 ≤ s.pre x
  · rw [(h.old x h1).1]; have := hl x; omega
  · by_cases h2 : 0 ≤ s'.pre x
    · have := h.new x (by omega) h2; omega
    · omega

theorem low_ent {s : Tm} (h : ∀ x, s.pre x < (s.clk : Int)) (t : Nat) : ∀ x, (s.ent t).pre x < ((s.ent t).clk : Int) := fun x => by
  have := h x
  simp only [Tm.ent]
  by_cases e : x = t
  · rw [if_pos e]; omega
  · rw [if_neg e]; omega

/-- What going along a row of nodes makes. -/
theorem row_spec {L : Nat → List Nat} {n : Nat} (hL : ∀ v, v < n → ∀ t ∈ L v, t < n) : ∀ (f : Nat) (ts : List Nat) (s : Tm), Un n s ≤ f → (∀ t ∈ ts, t < n) → (∀ x, s.pre x < (s.clk : Int)) →
    Grew L s (rowF L f s ts) ∧ (∀ t ∈ ts, 0 ≤ (rowF L f s ts).pre t) ∧ (∀ v, s.pre v < 0 → 0 ≤ (rowF L f s ts).pre v → ∃ t ∈ ts, Way L t v) := by
  intro f
  induction f with
  | zero =>
    intro ts
    induction ts with
    | nil => intro s _ _ _; rw [rowF_nil]; exact ⟨Grew.refl L s, (fun _ h => absurd h List.not_mem_nil), (fun v h h' => by omega)⟩
    | cons t ts ih =>
      intro s hu ht hl
      by_cases h : s.pre t < 0
      · have := Un.ent (n := n) (ht t (by simp)) h; omega
      · rw [rowF_old _ _ _ _ _ h]
        obtain ⟨a, b, c⟩ := ih s hu (fun x hx => ht x (by simp [hx])) hl
        refine ⟨a, fun x hx => ?_, fun v h1 h2 => ?_⟩
        · rcases List.mem_cons.1 hx with rfl | hx
          · exact a.keeps (by omega)
          · exact b x hx
        · obtain ⟨x, hx, w⟩ := c v h1 h2
          exact ⟨x, by simp [hx], w⟩
  | succ f ihf =>
    intro ts
    induction ts with
    | nil => intro s _ _ _; rw [rowF_nil]; exact ⟨Grew.refl L s, (fun _ h => absurd h List.not_mem_nil), (fun v h h' => by omega)⟩
    | cons t ts ih =>
      intro s hu ht hl
      by_cases h : s.pre t < 0
      · have hu1 := Un.ent (n := n) (ht t (by simp)) h
        obtain ⟨a, b, c⟩ := ihf (L t) (s.ent t) (by omega) (hL t (ht t (by simp))) (low_ent hl t)
        have V := Grew.visit hl h a b (fun v h1 h2 => by
          obtain ⟨x, hx, w⟩ := c v h1 h2
          exact ((Way.refl t).step hx).trans w)
        rw [rowF_new _ _ _ _ _ h]
        have hu2 := Un.mono (n := n) (fun v hv => V.keeps hv)
        obtain ⟨a', b', c'⟩ := ih ((rowF L f (s.ent t) (L t)).lv t) (by omega) (fun x hx => ht x (by simp [hx])) (V.low hl)
        have st : 0 ≤ ((rowF L f (s.ent t) (L t)).lv t).pre t := a.keeps (by simp [Tm.ent])
        refine ⟨V.trans a', fun x hx => ?_, fun v h1 h2 => ?_⟩
        · rcases List.mem_cons.1 hx with rfl | hx
          · exact a'.keeps st
          · exact b' x hx
        · by_cases hv : ((rowF L f (s.ent t) (L t)).lv t).pre v < 0
          · obtain ⟨x, hx, w⟩ := c' v hv h2
            exact ⟨x, by simp [hx], w⟩
          · refine ⟨t, by simp, ?_⟩
            by_cases e : v = t
            · rw [e]; exact Way.refl _
            · obtain ⟨x, hx, w⟩ := c v (by simp [Tm.ent, e, h1]) (by have : (0 : Int) ≤ (rowF L f (s.ent t) (L t)).pre v := Int.not_lt.1 hv; exact this)
              exact ((Way.refl t).step hx).trans w
      · rw [rowF_old _ _ _ _ _ h]
        obtain ⟨a, b, c⟩ := ih s hu (fun x hx => ht x (by simp [hx])) hl
        refine ⟨a, fun x hx => ?_, fun v h1 h2 => ?_⟩
        · rcases List.mem_cons.1 hx with rfl | hx
          · exact a.keeps (by omega)
          · exact b x hx
        · obtain ⟨x, hx, w⟩ := c v h1 h2
          exact ⟨x, by simp [hx], w⟩

theorem row_keeps {L : Nat → List Nat} : ∀ (f : Nat) (ts : List Nat) (s : Tm), ∀ v, 0 ≤ s.pre v → 0 ≤ (rowF L f s ts).pre v := by
  intro f
  induction f with
  | zero =>
    intro ts
    induction ts with
    | nil => intro s v h; rw [rowF_nil]; exact h
    | cons t ts ih =>
      intro s v h
      by_cases ht : s.pre t < 0
      · simp [rowF, ht, h]
      · rw [rowF_old _ _ _ _ _ ht]; exact ih s v h
  | succ f ihf =>
    intro ts
    induction ts with
    | nil => intro s v h; rw [rowF_nil]; exact h
    | cons t ts ih =>
      intro s v h
      by_cases ht : s.pre t < 0
      · rw [rowF_new _ _ _ _ _ ht]
        refine ih _ v ?_
        refine ihf (L t) (s.ent t) v ?_
        by_cases e : v = t
        · subst e; omega
        · simp [Tm.ent, e, h]
      · rw [rowF_old _ _ _ _ _ ht]; exact ih s v h

/-- Enough is enough. -/
theorem row_fuel {L : Nat → List Nat} {n : Nat} (hL : ∀ v, v < n → ∀ t ∈ L v, t < n) : ∀ (f : Nat) (ts : List Nat) (g : Nat) (s : Tm), Un n s ≤ f → Un n s ≤ g → (∀ t ∈ ts, t < n) → rowF L f s ts = rowF L g s ts := by
  intro f
  induction f with
  | zero =>
    intro ts
    induction ts with
    | nil => intro g s _ _ _; rw [rowF_nil, rowF_nil]
    | cons t ts ih =>
      intro g s hf hg ht
      by_cases h : s.pre t < 0
      · have := Un.ent (n := n) (ht t (by simp)) h; omega
      · rw [rowF_old _ _ _ _ _ h, rowF_old _ _ _ _ _ h]
        exact ih g s hf hg (fun x hx => ht x (by simp [hx]))
  | succ f ihf =>
    intro ts
    induction ts with
    | nil => intro g s _ _ _; rw [rowF_nil, rowF_nil]
    | cons t ts ih =>
      intro g s hf hg ht
      by_cases h : s.pre t < 0
      · have hu1 := Un.ent (n := n) (ht t (by simp)) h
        cases g with
        | zero => omega
        | succ g =>
          rw [rowF_new _ _ _ _ _ h, rowF_new _ _ _ _ _ h]
          rw [ihf (L t) g (s.ent t) (by omega) (by omega) (hL t (ht t (by simp)))]
          have hu2 : Un n ((rowF L g (s.ent t) (L t)).lv t) ≤ Un n s := Un.mono (fun v hv => by
            show 0 ≤ (rowF L g (s.ent t) (L t)).pre v
            refine row_keeps g (L t) (s.ent t) v ?_
            by_cases e : v = t
            · subst e; omega
            · simp [Tm.ent, e, hv])
          exact ih (g + 1) _ (by omega) (by omega) (fun x hx => ht x (by simp [hx]))
      · rw [rowF_old _ _ _ _ _ h, rowF_old _ _ _ _ _ h]
        exact ih g s hf hg (fun x hx => ht x (by simp [hx]))

/-- The visit of a row of nodes, with n nodes in all. -/
def vis (L : Nat → List Nat) (n : Nat) (s : Tm) (ts : List Nat) : Tm := rowF L n s ts

theorem vis_nil (L : Nat → List Nat) (n : Nat) (s : Tm) : vis L n s [] = s := rowF_nil L n s
theorem vis_old {L : Nat → List Nat} {n : Nat} {s : Tm} {t : Nat} {ts : List Nat} (h : ¬ s.pre t < 0) : vis L n s (t :: ts) = vis L n s ts := rowF_old L n s t ts h
theorem vis_new {L : Nat → List Nat} {n : Nat} (hL : ∀ v, v < n → ∀ t ∈ L v, t < n) {s : Tm} {t : Nat} {ts : List Nat} (ht : t < n) (h : s.pre t < 0) : vis L n s (t :: ts) = vis L n ((vis L n (s.ent t) (L t)).lv t) ts := by
  have hu1 := Un.ent (n := n) ht h
  have hu := Un.le n s
  unfold vis
  cases n with
  | zero => omega
  | succ m =>
    rw [rowF_new _ _ _ _ _ h, row_fuel hL m (L t) (m + 1) (s.ent t) (by omega) (by omega) (hL t ht)]
end Go.Proofs.Ytjheiaegpoppaaa
