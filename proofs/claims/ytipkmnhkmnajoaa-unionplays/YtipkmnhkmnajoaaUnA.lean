/- Disjoint sets: the mathematics. A history of joins, its roots, its trees, its least nodes. Nothing of the program. -/
import Derived.Test.YtipkmnhkmnajoaaRows
namespace Go.Proofs.Ytipkmnhkmnajoaa.Un

structure Tr where
  up : Nat
  size : Nat
  least : Nat

structure Jn where
  below : Nat
  root : Nat
  before : Tr

/-- The root of a node, behind a history (the last join ahead). -/
def rt : List Jn → Nat → Nat
  | [], v => v
  | j :: js, v => if rt js v = j.below then j.root else rt js v

/-- The tree of a node. -/
def tr : List Jn → Nat → Tr
  | [], v => ⟨v, 1, v⟩
  | j :: js, v =>
    if v = j.root then ⟨(tr js v).up, (tr js v).size + (tr js j.below).size, min (tr js v).least (tr js j.below).least⟩
    else if v = j.below then ⟨j.root, (tr js v).size, (tr js v).least⟩ else tr js v

/-- How far a node is from its root. -/
def far : List Jn → Nat → Nat
  | [], _ => 0
  | j :: js, v => if rt js v = j.below then far js v + 1 else far js v

def Good (n : Nat) : List Jn → Prop
  | [] => True
  | j :: js => Good n js ∧ j.below < n ∧ j.root < n ∧ j.below ≠ j.root ∧ rt js j.below = j.below ∧ rt js j.root = j.root ∧ j.before = tr js j.root

theorem rt_lt {n : Nat} : ∀ {js : List Jn}, Good n js → ∀ {v : Nat}, v < n → rt js v < n
  | [], _, v, h => h
  | j :: js, g, v, h => by
    unfold rt
    split
    · exact g.2.2.1
    · exact rt_lt g.1 h

theorem rt_rt {n : Nat} : ∀ {js : List Jn}, Good n js → ∀ v : Nat, rt js (rt js v) = rt js v
  | [], _, v => rfl
  | j :: js, g, v => by
    have ih := rt_rt g.1
    obtain ⟨_, _, _, hne, hb, hr, _⟩ := g
    show rt (j :: js) (if rt js v = j.below then j.root else rt js v) = (if rt js v = j.below then j.root else rt js v)
    split
    · rename_i c
      show (if rt js j.root = j.below then j.root else rt js j.root) = j.root
      rw [hr, if_neg (Ne.symm hne)]
    · rename_i c
      show (if rt js (rt js v) = j.below then j.root else rt js (rt js v)) = rt js v
      rw [ih, if_neg c]

theorem far_root {n : Nat} : ∀ {l : List Jn}, Good n l → ∀ x, rt l x = x → far l x = 0
  | [], _, _, _ => rfl
  | k :: l, gg, x, hx => by
    have ih2 := far_root gg.1
    obtain ⟨q1, _, _, q4, q5, q6, _⟩ := gg
    have hx' : (if rt l x = k.below then k.root else rt l x) = x := hx
    show (if rt l x = k.below then far l x + 1 else far l x) = 0
    split
    · rename_i c
      rw [if_pos c] at hx'
      rw [← hx', q6] at c
      exact absurd c.symm q4
    · rename_i c
      rw [if_neg c] at hx'
      exact ih2 x hx'

theorem up_facts {n : Nat} : ∀ {js : List Jn}, Good n js → ∀ {v : Nat}, v < n → (tr js v).up < n ∧ rt js (tr js v).up = rt js v ∧ ((tr js v).up = v ↔ rt js v = v) ∧ ((tr js v).up ≠ v → far js v = far js (tr js v).up + 1)
  | [], _, v, h => ⟨h, rfl, ⟨fun _ => rfl, fun _ => rfl⟩, fun t => absurd rfl t⟩
  | j :: js, g, v, h => by
    have ih := up_facts g.1 h
    have ihb := up_facts g.1 g.2.1
    obtain ⟨g1, hbn, hrn, hne, hb, hr, _⟩ := g
    obtain ⟨i1, i2, i3, i4⟩ := ih
    by_cases c1 : v = j.root
    · have eu : (tr (j :: js) v).up = v := by
        show (if v = j.root then _ else _ : Tr).up = v
        rw [if_pos c1]; exact i3.2 (by rw [c1]; exact hr)
      have er : rt (j :: js) v = v := by
        show (if rt js v = j.below then j.root else rt js v) = v
        rw [c1, hr, if_neg (Ne.symm hne)]
      rw [eu]
      exact ⟨h, rfl, ⟨fun _ => er, fun _ => rfl⟩, fun t => absurd rfl t⟩
    · by_cases c2 : v = j.below
      · have eu : (tr (j :: js) v).up = j.root := by
          show (if v = j.root then _ else if v = j.below then _ else _ : Tr).up = j.root
          rw [if_neg c1, if_pos c2]
        have er : rt (j :: js) v = j.root := by
          show (if rt js v = j.below then j.root else rt js v) = j.root
          rw [c2, hb, if_pos rfl]
        have err : rt (j :: js) j.root = j.root := by
          show (if rt js j.root = j.below then j.root else rt js j.root) = j.root
          rw [hr, if_neg (Ne.symm hne)]
        rw [eu, er, err]
        refine ⟨hrn, rfl, ⟨fun t => absurd t.symm c1, fun t => absurd t.symm c1⟩, fun _ => ?_⟩
        show (if rt js v = j.below then far js v + 1 else far js v) = (if rt js j.root = j.below then far js j.root + 1 else far js j.root) + 1
        rw [c2, hb, if_pos rfl, hr, if_neg (Ne.symm hne)]
        rw [far_root g1 _ hb, far_root g1 _ hr]
      · have et : tr (j :: js) v = tr js v := by
          show (if v = j.root then _ else if v = j.below then _ else _ : Tr) = _
          rw [if_neg c1, if_neg c2]
        rw [et]
        have er : rt (j :: js) v = v ↔ rt js v = v := by
          show (if rt js v = j.below then j.root else rt js v) = v ↔ _
          split
          · rename_i c
            exact ⟨fun t => absurd t.symm c1, fun t => absurd (t.symm.trans c) c2⟩
          · exact Iff.rfl
        refine ⟨i1, ?_, i3.trans er.symm, fun t => ?_⟩
        · show (if rt js (tr js v).up = j.below then _ else _) = (if rt js v = j.below then _ else _)
          rw [i2]
        · show (if rt js v = j.below then far js v + 1 else far js v) = (if rt js (tr js v).up = j.below then far js (tr js v).up + 1 else far js (tr js v).up) + 1
          rw [i2, i4 t]
          split <;> rfl

/-- The least node of a node's set. -/
def nm (js : List Jn) (v : Nat) : Nat := (tr js (rt js v)).least

theorem least_facts {n : Nat} : ∀ {js : List Jn}, Good n js → ∀ {r : Nat}, r < n → rt js r = r → (tr js r).least < n ∧ rt js (tr js r).least = r ∧ ∀ u, u < n → rt js u = r → (tr js r).least ≤ u
  | [], _, r, h, _ => ⟨h, rfl, fun u _ e => by have : u = r := e; exact Nat.le_of_eq this.symm⟩
  | j :: js, g, r, h, hroot => by
    have ihb := least_facts g.1 g.2.1 g.2.2.2.2.1
    have ihr := least_facts g.1 g.2.2.1 g.2.2.2.2.2.1
    have ih := fun t => least_facts g.1 h t
    obtain ⟨g1, hbn, hrn, hne, hb, hr, _⟩ := g
    by_cases c1 : r = j.root
    · have el : (tr (j :: js) r).least = min (tr js j.root).least (tr js j.below).least := by
        show (if r = j.root then _ else _ : Tr).least = _
        rw [if_pos c1, c1]
      rw [el]
      have cl : ∀ u, rt (j :: js) u = r ↔ rt js u = j.below ∨ rt js u = j.root := fun u => by
        show (if rt js u = j.below then j.root else rt js u) = r ↔ _
        rw [c1]
        split
        · rename_i c; exact ⟨fun _ => .inl c, fun _ => rfl⟩
        · rename_i c; exact ⟨fun t => .inr t, fun t => t.resolve_left c⟩
      refine ⟨by rw [Nat.min_def]; split; exact ihr.1; exact ihb.1, ?_, fun u hu e => ?_⟩
      · rw [cl, Nat.min_def]
        split
        · exact .inr ihr.2.1
        · exact .inl ihb.2.1
      · rcases (cl u).1 e with t | t
        · exact Nat.le_trans (Nat.min_le_right _ _) (ihb.2.2 u hu t)
        · exact Nat.le_trans (Nat.min_le_left _ _) (ihr.2.2 u hu t)
    · have hr2 : (if rt js r = j.below then j.root else rt js r) = r := hroot
      have c2 : rt js r ≠ j.below := fun t => by rw [if_pos t] at hr2; exact c1 hr2.symm
      rw [if_neg c2] at hr2
      have c3 : r ≠ j.below := fun t => c2 (hr2.trans t)
      have et : tr (j :: js) r = tr js r := by
        show (if r = j.root then _ else if r = j.below then _ else _ : Tr) = _
        rw [if_neg c1, if_neg c3]
      rw [et]
      obtain ⟨k1, k2, k3⟩ := ih hr2
      have cl : ∀ u, rt (j :: js) u = r ↔ rt js u = r := fun u => by
        show (if rt js u = j.below then j.root else rt js u) = r ↔ _
        split
        · rename_i c; exact ⟨fun t => absurd t.symm c1, fun t => absurd (t.symm.trans c) c3⟩
        · exact Iff.rfl
      exact ⟨k1, (cl _).2 k2, fun u hu e => k3 u hu ((cl u).1 e)⟩

theorem nm_facts {n : Nat} {js : List Jn} (g : Good n js) {v : Nat} (h : v < n) : nm js v < n ∧ rt js (nm js v) = rt js v ∧ ∀ u, u < n → rt js u = rt js v → nm js v ≤ u :=
  least_facts g (rt_lt g h) (rt_rt g v)

/-- Two histories with the same sets have the same names. -/
theorem nm_same {n : Nat} {js ks : List Jn} (g : Good n js) (k : Good n ks) (h : ∀ u v, u < n → v < n → (rt js u = rt js v ↔ rt ks u = rt ks v)) {v : Nat} (hv : v < n) : nm js v = nm ks v := by
  obtain ⟨a1, a2, a3⟩ := nm_facts g hv
  obtain ⟨b1, b2, b3⟩ := nm_facts k hv
  exact Nat.le_antisymm (a3 _ b1 ((h _ _ b1 hv).2 b2)) (b3 _ a1 ((h _ _ a1 hv).1 a2))

theorem nm_eq_iff {n : Nat} {js : List Jn} (g : Good n js) {u v : Nat} (hu : u < n) (hv : v < n) : nm js u = nm js v ↔ rt js u = rt js v := by
  constructor
  · intro e
    rw [← (nm_facts g hu).2.1, ← (nm_facts g hv).2.1, e]
  · intro e
    unfold nm; rw [e]

/-- How many nodes have a root. -/
def cnt (js : List Jn) (r : Nat) : Nat → Nat
  | 0 => 0
  | n + 1 => cnt js r n + if rt js n = r then 1 else 0

theorem cnt_le (js : List Jn) (r n : Nat) : cnt js r n ≤ n := by
  induction n with
  | zero => exact Nat.le_refl _
  | succ n ih => unfold cnt; split <;> omega

theorem cnt_two (js : List Jn) (a b : Nat) (h : a ≠ b) (n : Nat) : cnt js a n + cnt js b n ≤ n := by
  induction n with
  | zero => exact Nat.le_refl _
  | succ n ih =>
    unfold cnt
    split <;> split <;> omega

theorem cnt_nil (r n : Nat) : cnt [] r n = if r < n then 1 else 0 := by
  induction n with
  | zero => rfl
  | succ n ih =>
    have e : cnt [] r (n + 1) = cnt [] r n + if n = r then 1 else 0 := rfl
    rw [e, ih]
    split <;> split <;> split <;> omega

theorem cnt_root (j : Jn) (js : List Jn) (hne : j.below ≠ j.root) (n : Nat) : cnt (j :: js) j.root n = cnt js j.root n + cnt js j.below n := by
  induction n with
  | zero => rfl
  | succ n ih =>
    have e : cnt (j :: js) j.root (n + 1) = cnt (j :: js) j.root n + if (if rt js n = j.below then j.root else rt js n) = j.root then 1 else 0 := rfl
    have e1 : cnt js j.root (n + 1) = cnt js j.root n + if rt js n = j.root then 1 else 0 := rfl
    have e2 : cnt js j.below (n + 1) = cnt js j.below n + if rt js n = j.below then 1 else 0 := rfl
    rw [e, e1, e2, ih]
    by_cases c : rt js n = j.below
    · rw [if_pos c, if_pos rfl, if_pos c, if_neg (by rw [c]; exact hne)]; omega
    · rw [if_neg c, if_neg c]; omega

theorem cnt_other (j : Jn) (js : List Jn) (r : Nat) (h1 : r ≠ j.root) (h2 : r ≠ j.below) (n : Nat) : cnt (j :: js) r n = cnt js r n := by
  induction n with
  | zero => rfl
  | succ n ih =>
    have e : cnt (j :: js) r (n + 1) = cnt (j :: js) r n + if (if rt js n = j.below then j.root else rt js n) = r then 1 else 0 := rfl
    have e1 : cnt js r (n + 1) = cnt js r n + if rt js n = r then 1 else 0 := rfl
    rw [e, e1, ih]
    by_cases c : rt js n = j.below
    · rw [if_pos c, if_neg (Ne.symm h1), if_neg (by rw [c]; exact Ne.symm h2)]
    · rw [if_neg c]

/-- A root's size is the number of its nodes; whatever it is, it fits. -/
theorem size_root {n : Nat} : ∀ {js : List Jn}, Good n js → ∀ {r : Nat}, r < n → rt js r = r → (tr js r).size = cnt js r n
  | [], _, r, h, _ => by rw [cnt_nil, if_pos h]; rfl
  | j :: js, g, r, h, hroot => by
    have ihb := size_root g.1 g.2.1 g.2.2.2.2.1
    have ihr := size_root g.1 g.2.2.1 g.2.2.2.2.2.1
    have ih := fun t => size_root g.1 h t
    obtain ⟨g1, hbn, hrn, hne, hb, hr, _⟩ := g
    by_cases c1 : r = j.root
    · have el : (tr (j :: js) r).size = (tr js j.root).size + (tr js j.below).size := by
        show (if r = j.root then _ else _ : Tr).size = _
        rw [if_pos c1, c1]
      rw [el, ihb, ihr, c1, cnt_root j js hne]
    · have hr2 : (if rt js r = j.below then j.root else rt js r) = r := hroot
      have c2 : rt js r ≠ j.below := fun t => by rw [if_pos t] at hr2; exact c1 hr2.symm
      rw [if_neg c2] at hr2
      have c3 : r ≠ j.below := fun t => c2 (hr2.trans t)
      have et : tr (j :: js) r = tr js r := by
        show (if r = j.root then _ else if r = j.below then _ else _ : Tr) = _
        rw [if_neg c1, if_neg c3]
      rw [et, ih hr2, cnt_other j js r c1 c3]

/-- How many nodes are their own names. -/
def heads (js : List Jn) : Nat → Nat
  | 0 => 0
  | n + 1 => heads js n + if nm js n = n then 1 else 0
/-- How many nodes are roots. -/
def roots (js : List Jn) : Nat → Nat
  | 0 => 0
  | n + 1 => roots js n + if rt js n = n then 1 else 0

/-- One that is turned off among so many. -/
theorem sum_off (f g : Nat → Bool) (n b : Nat) (hb : b < n) (hf : f b = true) (hg : g b = false) (h : ∀ v, v ≠ b → f v = g v) :
    ∀ (F G : Nat → Nat), (F 0 = 0 ∧ ∀ k, F (k + 1) = F k + if f k = true then 1 else 0) → (G 0 = 0 ∧ ∀ k, G (k + 1) = G k + if g k = true then 1 else 0) → F n = G n + 1 := by
  intro F G hF hG
  have low : ∀ k, k ≤ b → F k = G k := by
    intro k
    induction k with
    | zero => intro _; rw [hF.1, hG.1]
    | succ k ih => intro hk; rw [hF.2, hG.2, ih (by omega), h k (by omega)]
  have high : ∀ k, b < k → F k = G k + 1 := by
    intro k
    induction k with
    | zero => intro hk; omega
    | succ k ih =>
      intro hk
      rw [hF.2, hG.2]
      by_cases e : k = b
      · subst e; rw [low k (Nat.le_refl _), hf, hg]; simp
      · rw [ih (by omega), h k e]; omega
  exact high n hb

theorem roots_len {n : Nat} : ∀ {js : List Jn}, Good n js → roots js n + js.length = n
  | [], _ => by
    have : ∀ k, roots [] k = k := fun k => by
      induction k with
      | zero => rfl
      | succ k ih => show roots [] k + (if k = k then 1 else 0) = k + 1; rw [ih, if_pos rfl]
    rw [this]; rfl
  | j :: js, g => by
    have ih := roots_len g.1
    obtain ⟨g1, hbn, hrn, hne, hb, hr, _⟩ := g
    have := sum_off (fun v => decide (rt js v = v)) (fun v => decide (rt (j :: js) v = v)) n j.below hbn (by simpa using hb)
      (by
        simp only [decide_eq_false_iff_not]
        show ¬ (if rt js j.below = j.below then j.root else rt js j.below) = j.below
        rw [if_pos hb]; exact Ne.symm hne)
      (fun v hv => by
        have : (rt js v = v) ↔ (rt (j :: js) v = v) := by
          show _ ↔ (if rt js v = j.below then j.root else rt js v) = v
          split
          · rename_i c
            constructor
            · intro t; exact absurd (t.symm.trans c) hv
            · intro t; rw [← t, hr] at c; exact absurd c.symm hne
          · exact Iff.rfl
        simp only [this])
      (roots js) (roots (j :: js)) ⟨rfl, fun k => by simp only [decide_eq_true_eq]; rfl⟩ ⟨rfl, fun k => by simp only [decide_eq_true_eq]; rfl⟩
    simp only [List.length_cons]
    omega

theorem len_lt {n : Nat} {js : List Jn} (g : Good n js) : js.length ≤ n := by have := roots_len g; omega

theorem heads_len {n : Nat} : ∀ {js : List Jn}, Good n js → heads js n + js.length = n
  | [], _ => by
    have : ∀ k, heads [] k = k := fun k => by
      induction k with
      | zero => rfl
      | succ k ih => show heads [] k + (if k = k then 1 else 0) = k + 1; rw [ih, if_pos rfl]
    rw [this]; rfl
  | j :: js, g => by
    have ih := heads_len g.1
    have gg := g
    obtain ⟨g1, hbn, hrn, hne, hb, hr, _⟩ := g
    -- the greater of the two names is no name any more
    have fb := nm_facts g1 hbn
    have fr := nm_facts g1 hrn
    rw [hb] at fb
    rw [hr] at fr
    have hnn : nm js j.below ≠ nm js j.root := fun t => hne (by rw [← fb.2.1, ← fr.2.1, t])
    have inb : ∀ u, rt js u = j.below → nm js u = nm js j.below := fun u e => by unfold nm; rw [e, hb]
    have inr : ∀ u, rt js u = j.root → nm js u = nm js j.root := fun u e => by unfold nm; rw [e, hr]
    have new : ∀ u, rt js u = j.below ∨ rt js u = j.root → nm (j :: js) u = min (nm js j.root) (nm js j.below) := fun u e => by
      have er : rt (j :: js) u = j.root := by
        show (if rt js u = j.below then j.root else rt js u) = j.root
        rcases e with t | t
        · rw [if_pos t]
        · rw [t, if_neg (Ne.symm hne)]
      unfold nm
      rw [er, hb, hr]
      show (if j.root = j.root then _ else _ : Tr).least = _
      rw [if_pos rfl]
    have old : ∀ u, ¬ (rt js u = j.below ∨ rt js u = j.root) → nm (j :: js) u = nm js u := fun u e => by
      have er : rt (j :: js) u = rt js u := by
        show (if rt js u = j.below then j.root else rt js u) = rt js u
        rw [if_neg (fun t => e (.inl t))]
      unfold nm
      rw [er]
      show (if rt js u = j.root then _ else if rt js u = j.below then _ else _ : Tr).least = _
      rw [if_neg (fun t => e (.inr t)), if_neg (fun t => e (.inl t))]
    have key : ∃ b, b < n ∧ nm js b = b ∧ nm (j :: js) b ≠ b ∧ ∀ v, v ≠ b → (nm js v = v ↔ nm (j :: js) v = v) := by
      have nb : nm js (nm js j.below) = nm js j.below := inb _ fb.2.1
      have nr : nm js (nm js j.root) = nm js j.root := inr _ fr.2.1
      rcases Nat.lt_or_gt_of_ne hnn with hl | hl
      · refine ⟨nm js j.root, fr.1, nr, ?_, fun v hv => ?_⟩
        · rw [new _ (.inr fr.2.1), Nat.min_eq_right (by omega)]; exact hnn
        · by_cases c : rt js v = j.below ∨ rt js v = j.root
          · rw [new v c, Nat.min_eq_right (by omega)]
            rcases c with c | c
            · rw [inb v c]
            · rw [inr v c]
              refine ⟨fun t => absurd t.symm hv, fun t => ?_⟩
              rw [← t, fb.2.1] at c; exact absurd c hne
          · rw [old v c]
      · refine ⟨nm js j.below, fb.1, nb, ?_, fun v hv => ?_⟩
        · rw [new _ (.inl fb.2.1), Nat.min_eq_left (by omega)]; exact Ne.symm hnn
        · by_cases c : rt js v = j.below ∨ rt js v = j.root
          · rw [new v c, Nat.min_eq_left (by omega)]
            rcases c with c | c
            · rw [inb v c]
              refine ⟨fun t => absurd t.symm hv, fun t => ?_⟩
              rw [← t, fr.2.1] at c; exact absurd c.symm hne
            · rw [inr v c]
          · rw [old v c]
    obtain ⟨b, k1, k2, k3, k4⟩ := key
    have := sum_off (fun v => decide (nm js v = v)) (fun v => decide (nm (j :: js) v = v)) n b k1 (by simpa using k2) (by simpa using k3) (fun v hv => by simp only [k4 v hv])
      (heads js) (heads (j :: js)) ⟨rfl, fun k => by simp only [decide_eq_true_eq]; rfl⟩ ⟨rfl, fun k => by simp only [decide_eq_true_eq]; rfl⟩
    simp only [List.length_cons]
    omega

/-- What hangs together by pairs. -/
inductive Con (P : List (Nat × Nat)) : Nat → Nat → Prop
  | refl (u) : Con P u u
  | base {u v} : (u, v) ∈ P → Con P u v
  | symm {u v} : Con P u v → Con P v u
  | trans {u v w} : Con P u v → Con P v w → Con P u w

theorem Con.mono {P Q : List (Nat × Nat)} (h : ∀ p ∈ P, p ∈ Q ∨ (p.2, p.1) ∈ Q) {u v : Nat} (c : Con P u v) : Con Q u v := by
  induction c with
  | refl u => exact .refl u
  | base hp => rcases h _ hp with t | t; exact .base t; exact .symm (.base t)
  | symm _ ih => exact ih.symm
  | trans _ _ ih1 ih2 => exact ih1.trans ih2

/-- The sets of a history are what hangs together by pairs. -/
def Cl (P : List (Nat × Nat)) (js : List Jn) : Prop := ∀ u v, rt js u = rt js v ↔ Con P u v

theorem Cl.nil : Cl [] [] := fun u v => by
  constructor
  · intro e; have : u = v := e; rw [this]; exact .refl v
  · intro c
    induction c with
    | refl u => rfl
    | base hp => cases hp
    | symm _ ih => exact ih.symm
    | trans _ _ ih1 ih2 => exact ih1.trans ih2

theorem Cl.same {P Q : List (Nat × Nat)} {js : List Jn} (h : Cl P js) {u v : Nat} (e : rt js u = rt js v) (hQ : ∀ p, p ∈ Q ↔ p ∈ P ∨ p = (u, v)) : Cl Q js := fun x y => by
  constructor
  · intro t; exact ((h x y).1 t).mono fun p hp => .inl ((hQ p).2 (.inl hp))
  · intro c
    induction c with
    | refl u => rfl
    | base hp =>
      rcases (hQ _).1 hp with t | t
      · exact (h _ _).2 (.base t)
      · simp only [Prod.mk.injEq] at t; rw [t.1, t.2]; exact e
    | symm _ ih => exact ih.symm
    | trans _ _ ih1 ih2 => exact ih1.trans ih2

theorem Cl.join {n : Nat} {P Q : List (Nat × Nat)} {js : List Jn} {j : Jn} (h : Cl P js) (g : Good n (j :: js)) {u v : Nat} (e : j.below = rt js u ∧ j.root = rt js v ∨ j.below = rt js v ∧ j.root = rt js u) (hQ : ∀ p, p ∈ Q ↔ p ∈ P ∨ p = (u, v)) : Cl Q (j :: js) := by
  obtain ⟨g1, hbn, hrn, hne, hb, hr, _⟩ := g
  have up : ∀ {x y}, Con P x y → Con Q x y := fun c => c.mono fun p hp => .inl ((hQ p).2 (.inl hp))
  have cr : ∀ x, Con Q x (rt js x) := fun x => up ((h x (rt js x)).1 (rt_rt g1 x).symm)
  have cuv : Con Q u v := .base ((hQ _).2 (.inr rfl))
  have cbr : Con Q j.below j.root := by
    rcases e with ⟨e1, e2⟩ | ⟨e1, e2⟩
    · rw [e1, e2]; exact ((cr u).symm.trans cuv).trans (cr v)
    · rw [e1, e2]; exact ((cr v).symm.trans cuv.symm).trans (cr u)
  have cr2 : ∀ x, Con Q x (rt (j :: js) x) := fun x => by
    show Con Q x (if rt js x = j.below then j.root else rt js x)
    split
    · rename_i c; have := cr x; rw [c] at this; exact this.trans cbr
    · exact cr x
  intro x y
  constructor
  · intro t
    have := cr2 x
    rw [t] at this
    exact this.trans (cr2 y).symm
  · intro c
    have st : ∀ {x y}, rt js x = rt js y → rt (j :: js) x = rt (j :: js) y := fun {x y} t => by
      show (if rt js x = j.below then j.root else rt js x) = (if rt js y = j.below then j.root else rt js y)
      rw [t]
    induction c with
    | refl u => rfl
    | base hp =>
      rcases (hQ _).1 hp with t | t
      · exact st ((h _ _).2 (.base t))
      · simp only [Prod.mk.injEq] at t
        rw [t.1, t.2]
        show (if rt js u = j.below then j.root else rt js u) = (if rt js v = j.below then j.root else rt js v)
        rcases e with ⟨e1, e2⟩ | ⟨e1, e2⟩
        · rw [← e1, ← e2, if_pos rfl, if_neg (Ne.symm hne)]
        · rw [← e1, ← e2, if_pos rfl, if_neg (Ne.symm hne)]
    | symm _ ih => exact ih.symm
    | trans _ _ ih1 ih2 => exact ih1.trans ih2
end Go.Proofs.Ytipkmnhkmnajoaa.Un
