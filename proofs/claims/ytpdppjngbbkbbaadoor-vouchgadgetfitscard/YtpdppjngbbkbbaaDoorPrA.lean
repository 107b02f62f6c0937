/- Amounts on edges: what goes out of a node, what leaves a side, what it costs; weak duality. Plain mathematics. -/
import Derived.Test.YtpdppjngbbkbbaaDoorEdgeB
namespace Go.Proofs.YtpdppjngbbkbbaaDoor
open Go.RowKit

/-- The sum of the first k. -/
def sm (f : Nat → Int) : Nat → Int
  | 0 => 0
  | k + 1 => sm f k + f k

theorem sm_succ (f : Nat → Int) (k : Nat) : sm f (k + 1) = sm f k + f k := rfl
theorem sm_congr {f g : Nat → Int} {k : Nat} (h : ∀ i, i < k → f i = g i) : sm f k = sm g k := by
  induction k with
  | zero => rfl
  | succ k ih => rw [sm_succ, sm_succ, ih (fun i hi => h i (by omega)), h k (by omega)]
theorem sm_add (f g : Nat → Int) (k : Nat) : sm (fun i => f i + g i) k = sm f k + sm g k := by
  induction k with
  | zero => rfl
  | succ k ih => rw [sm_succ, sm_succ, sm_succ, ih]; omega
theorem sm_sub (f g : Nat → Int) (k : Nat) : sm (fun i => f i - g i) k = sm f k - sm g k := by
  induction k with
  | zero => rfl
  | succ k ih => rw [sm_succ, sm_succ, sm_succ, ih]; omega
theorem sm_mul (c : Int) (f : Nat → Int) (k : Nat) : sm (fun i => c * f i) k = c * sm f k := by
  induction k with
  | zero => simp [sm]
  | succ k ih => rw [sm_succ, sm_succ, ih, Int.mul_add]
theorem sm_zero (k : Nat) : sm (fun _ => 0) k = 0 := by
  induction k with
  | zero => rfl
  | succ k ih => rw [sm_succ, ih]; rfl
theorem sm_le {f g : Nat → Int} {k : Nat} (h : ∀ i, i < k → f i ≤ g i) : sm f k ≤ sm g k := by
  induction k with
  | zero => exact Int.le_refl _
  | succ k ih => rw [sm_succ, sm_succ]; have := ih (fun i hi => h i (by omega)); have := h k (by omega); omega
theorem sm_eq_of_le {f g : Nat → Int} {k : Nat} (h : ∀ i, i < k → f i ≤ g i) (e : sm f k = sm g k) : ∀ i, i < k → f i = g i := by
  induction k with
  | zero => intro i hi; omega
  | succ k ih =>
    rw [sm_succ, sm_succ] at e
    have h1 := sm_le (fun i (hi : i < k) => h i (by omega))
    have h2 := h k (by omega)
    intro i hi
    by_cases e2 : i = k
    · subst e2; omega
    · exact ih (fun i hi => h i (by omega)) (by omega) i (by omega)
theorem sm_none (p : Nat → Int) (v : Int) (n : Nat) (hv : ¬ (0 ≤ v ∧ v < (n : Int))) : sm (fun j => if v = (j : Int) then p j else 0) n = 0 := by
  rw [sm_congr (g := fun _ => 0) (fun i hi => if_neg (by omega)), sm_zero]
theorem sm_pick (p : Nat → Int) (v : Int) (n : Nat) (h0 : 0 ≤ v) (hv : v < (n : Int)) : sm (fun j => if v = (j : Int) then p j else 0) n = p v.toNat := by
  induction n with
  | zero => omega
  | succ n ih =>
    rw [sm_succ]
    by_cases e : v = (n : Int)
    · rw [if_pos e, sm_none p v n (by omega)]
      rw [show v.toNat = n by omega]; omega
    · rw [if_neg e, ih (by omega)]; omega
/-- Each within a bound, all within the bound so often. -/
theorem sm_bd {f : Nat → Int} {k : Nat} {B : Int} (h : ∀ i, i < k → -B ≤ f i ∧ f i ≤ B) : -(B * (k : Int)) ≤ sm f k ∧ sm f k ≤ B * (k : Int) := by
  induction k with
  | zero => simp [sm]
  | succ k ih =>
    have h1 := ih (fun i hi => h i (by omega))
    have h2 := h k (by omega)
    rw [sm_succ]
    have e : B * ((k + 1 : Nat) : Int) = B * (k : Int) + B := by rw [Int.natCast_add, Int.mul_add]; simp
    rw [e]
    omega

theorem wrap_id {x : Int} (h1 : -9223372036854775808 ≤ x) (h2 : x ≤ 9223372036854775807) : IntKind.i64.wrap x = x := by rw [IntKind.wrap_i64]; first | omega | (unfold wrap64; omega)

/-- How much more goes out of a node than comes into it, over the first k edges. -/
def outTo (es : List Ed) (on : Nat → Int) (v : Int) (k : Nat) : Int := sm (fun i => (if (edAt es i).f = v then on i else 0) - (if (edAt es i).t = v then on i else 0)) k

/-- An edge's capacity, if it leaves. -/
def cutT : Bool → Bool → Int → Int
  | true, false, c => c
  | _, _, _ => 0
/-- The capacity of the edges that leave a side. -/
def cutTo (es : List Ed) (side : Nat → Bool) (k : Nat) : Int := sm (fun i => cutT (side (edAt es i).f.toNat) (side (edAt es i).t.toNat) (edAt es i).c) k
theorem cutT_bd {a b : Bool} {c B : Int} (h : 0 ≤ c) (h2 : c ≤ B) : 0 ≤ cutT a b c ∧ cutT a b c ≤ B := by cases a <;> cases b <;> simp [cutT] <;> omega

/-- What amounts cost. -/
def costTo (es : List Ed) (on : Nat → Int) (k : Nat) : Int := sm (fun i => (edAt es i).k * on i) k

/-- The ends are nodes. -/
def EndsIn (es : List Ed) (N k : Nat) : Prop := ∀ i, i < k → 0 ≤ (edAt es i).f ∧ (edAt es i).f < (N : Int) ∧ 0 ≤ (edAt es i).t ∧ (edAt es i).t < (N : Int)
/-- The amounts fit on the edges. -/
def OnFits (es : List Ed) (on : Nat → Int) (k : Nat) : Prop := ∀ i, i < k → 0 ≤ on i ∧ on i ≤ (edAt es i).c

theorem out_pot (es : List Ed) (on p : Nat → Int) (N k : Nat) (h : EndsIn es N k) :
    sm (fun v => p v * outTo es on (v : Int) k) N = sm (fun i => (p (edAt es i).f.toNat - p (edAt es i).t.toNat) * on i) k := by
  induction k with
  | zero =>
    have : ∀ v : Nat, p v * outTo es on (v : Int) 0 = 0 := fun v => by simp [outTo, sm]
    rw [sm_congr (g := fun _ => 0) (fun v _ => this v), sm_zero]; rfl
  | succ k ih =>
    have hk := h k (by omega)
    have e : ∀ v : Nat, p v * outTo es on (v : Int) (k + 1) = p v * outTo es on (v : Int) k + ((if (edAt es k).f = (v : Int) then p v * on k else 0) - (if (edAt es k).t = (v : Int) then p v * on k else 0)) := by
      intro v
      show p v * (outTo es on (v : Int) k + _) = _
      rw [Int.mul_add, Int.mul_sub]
      congr 2 <;> split <;> simp
    rw [sm_congr (fun v _ => e v), sm_add, ih (fun i hi => h i (by omega)), sm_sub, sm_pick (fun v => p v * on k) _ _ hk.1 hk.2.1, sm_pick (fun v => p v * on k) _ _ hk.2.2.1 hk.2.2.2, sm_succ, Int.sub_mul]

/-- What goes out of a side leaves it. -/
theorem side_out (es : List Ed) (on : Nat → Int) (side : Nat → Bool) (N k : Nat) (h : EndsIn es N k) (hf : OnFits es on k) :
    sm (fun v => if side v = true then outTo es on (v : Int) k else 0) N ≤ cutTo es side k := by
  have e := out_pot es on (fun v => if side v = true then 1 else 0) N k h
  rw [sm_congr (g := fun v => if side v = true then outTo es on (v : Int) k else 0) (fun v _ => by cases side v <;> simp)] at e
  rw [e]
  refine sm_le fun i hi => ?_
  have := hf i hi
  generalize edAt es i = d at this ⊢
  cases side d.f.toNat <;> cases side d.t.toNat <;> simp [cutT] <;> omega

/-- All together nothing goes out. -/
theorem out_none (es : List Ed) (on : Nat → Int) (N k : Nat) (h : EndsIn es N k) : sm (fun v => outTo es on (v : Int) k) N = 0 := by
  have e := out_pot es on (fun _ => 1) N k h
  rw [sm_congr (g := fun v => outTo es on (v : Int) k) (fun v _ => by simp)] at e
  rw [e, sm_congr (g := fun _ => 0) (fun v _ => by simp), sm_zero]

/-- The supplies of a flow. -/
def flowSup (s t : Int) (value : Int) (v : Nat) : Int := if (v : Int) = t then -value else if (v : Int) = s then value else 0

theorem sm_two (s t x y : Int) (N : Nat) (hs : 0 ≤ s) (hs2 : s < N) (ht : 0 ≤ t) (ht2 : t < N) (hne : s ≠ t) (f : Nat → Int) (h : ∀ v : Nat, v < N → f v = 0 ∨ (v : Int) = s ∨ (v : Int) = t) (hx : f s.toNat = x) (hy : f t.toNat = y) : sm f N = x + y := by
  have e : ∀ v : Nat, v < N → f v = (if s = (v : Int) then f v else 0) + (if t = (v : Int) then f v else 0) := by
    intro v hv
    rcases h v hv with h | h | h
    · rw [h]; simp
    · rw [if_pos h.symm, if_neg (by omega)]; omega
    · rw [if_neg (by omega), if_pos h.symm]; omega
  rw [sm_congr e, sm_add, sm_pick f s N hs hs2, sm_pick f t N ht ht2, hx, hy]

/-- What the program asks of a flow is what the document asks. -/
theorem flow_iff (es : List Ed) (on : Nat → Int) (N k : Nat) (h : EndsIn es N k) (s t : Int) (hs : 0 ≤ s) (hs2 : s < N) (ht : 0 ≤ t) (ht2 : t < N) (hne : s ≠ t) (c : Int) :
    ((∀ v : Nat, v < N → outTo es on (v : Int) k = 0 ∨ (v : Int) = s ∨ (v : Int) = t) ∧ outTo es on s k = c) ↔ ∀ v : Nat, v < N → outTo es on (v : Int) k = flowSup s t c v := by
  constructor
  · rintro ⟨h1, h2⟩
    have e := out_none es on N k h
    have hst : ((s.toNat : Nat) : Int) = s := by omega
    have htt : ((t.toNat : Nat) : Int) = t := by omega
    rw [sm_two s t _ _ N hs hs2 ht ht2 hne _ h1 rfl rfl, hst, htt, h2] at e
    intro v hv
    unfold flowSup
    by_cases e1 : (v : Int) = t
    · rw [if_pos e1, e1]; omega
    · rw [if_neg e1]
      by_cases e2 : (v : Int) = s
      · rw [if_pos e2, e2]; exact h2
      · rw [if_neg e2]
        rcases h1 v hv with g | g | g
        · exact g
        · exact absurd g e2
        · exact absurd g e1
  · intro h1
    refine ⟨fun v hv => ?_, ?_⟩
    · have := h1 v hv
      unfold flowSup at this
      split at this
      · exact .inr (.inr (by assumption))
      · split at this
        · exact .inr (.inl (by assumption))
        · exact .inl this
    · have := h1 s.toNat (by omega)
      rw [show ((s.toNat : Nat) : Int) = s by omega] at this
      rw [this]
      unfold flowSup
      rw [if_neg (by omega), if_pos (by omega)]

/-- No flow is greater than a cut. -/
theorem flow_le (es : List Ed) (on : Nat → Int) (N k : Nat) (h : EndsIn es N k) (hf : OnFits es on k) (s t : Int) (hs : 0 ≤ s) (hs2 : s < N) (side : Nat → Bool) (h1 : side s.toNat = true) (h2 : side t.toNat = false) (x : Int) (hx : ∀ v : Nat, v < N → outTo es on (v : Int) k = flowSup s t x v) (hne : s ≠ t) : x ≤ cutTo es side k := by
  have := side_out es on side N k h hf
  rw [sm_congr (g := fun v => if s = (v : Int) then x else 0) (fun v hv => ?_), sm_pick (fun _ => x) s N hs hs2] at this
  · exact this
  · show (if side v = true then outTo es on (v : Int) k else 0) = _
    rw [hx v hv]
    unfold flowSup
    by_cases e1 : (v : Int) = t
    · have : v = t.toNat := by omega
      rw [if_pos e1, this, h2, if_neg (by simp), if_neg (by omega)]
    · rw [if_neg e1]
      by_cases e2 : (v : Int) = s
      · have : v = s.toNat := by omega
        rw [if_pos e2, if_pos e2.symm, this, h1, if_pos rfl]
      · rw [if_neg e2, if_neg (show ¬ s = (v : Int) from fun e => e2 e.symm)]; split <;> rfl

/-- The potentials' cost of an edge. -/
def redOf (es : List Ed) (p : Nat → Int) (i : Nat) : Int := (edAt es i).k + p (edAt es i).f.toNat - p (edAt es i).t.toNat

theorem cost_red (es : List Ed) (on p : Nat → Int) (N k : Nat) (h : EndsIn es N k) : costTo es on k = sm (fun i => redOf es p i * on i) k - sm (fun v => p v * outTo es on (v : Int) k) N := by
  rw [out_pot es on p N k h, ← sm_sub]
  refine sm_congr fun i _ => ?_
  unfold redOf
  rw [← Int.sub_mul]
  congr 1
  omega

/-- The potentials prove the amounts. -/
theorem plan_le (es : List Ed) (x y p sup : Nat → Int) (N k : Nat) (h : EndsIn es N k) (hx : OnFits es x k) (hy : OnFits es y k) (sx : ∀ v : Nat, v < N → outTo es x (v : Int) k = sup v) (sy : ∀ v : Nat, v < N → outTo es y (v : Int) k = sup v)
    (hp : ∀ i, i < k → (redOf es p i ≤ 0 ∨ x i = 0) ∧ (0 ≤ redOf es p i ∨ x i = (edAt es i).c)) : costTo es x k ≤ costTo es y k := by
  rw [cost_red es x p N k h, cost_red es y p N k h, sm_congr (f := fun v => p v * outTo es x (v : Int) k) (g := fun v => p v * sup v) (fun v hv => by rw [sx v hv]), sm_congr (f := fun v => p v * outTo es y (v : Int) k) (g := fun v => p v * sup v) (fun v hv => by rw [sy v hv])]
  have : sm (fun i => redOf es p i * x i) k ≤ sm (fun i => redOf es p i * y i) k := by
    refine sm_le fun i hi => ?_
    have h1 := hx i hi
    have h2 := hy i hi
    have h3 := hp i hi
    generalize redOf es p i = r at h3
    generalize (edAt es i).c = c at h1 h2 h3
    rcases Int.lt_trichotomy r 0 with g | g | g
    · have : x i = c := h3.2.resolve_left (by omega)
      rw [this]
      exact Int.mul_le_mul_of_nonpos_left (by omega) h2.2
    · rw [g]; simp
    · have : x i = 0 := h3.1.resolve_left (by omega)
      rw [this, Int.mul_zero]
      exact Int.mul_nonneg (by omega) h2.1
  omega

theorem side_sup (es : List Ed) (y sup : Nat → Int) (side : Nat → Bool) (N k : Nat) (h : EndsIn es N k) (hy : OnFits es y k) (sy : ∀ v : Nat, v < N → outTo es y (v : Int) k = sup v) : sm (fun v => if side v = true then sup v else 0) N ≤ cutTo es side k := by
  have := side_out es y side N k h hy
  rw [sm_congr (g := fun v => if side v = true then sup v else 0) (fun v hv => by rw [sy v hv])] at this
  exact this

/-- The potentials prove the round. -/
theorem round_le (es : List Ed) (x y p : Nat → Int) (N k : Nat) (h : EndsIn es N k) (hy : ∀ i, i < k → 1 ≤ y i) (sx : ∀ v : Nat, v < N → outTo es x (v : Int) k = 0) (sy : ∀ v : Nat, v < N → outTo es y (v : Int) k = 0)
    (hp : ∀ i, i < k → redOf es p i = 0 ∨ (0 < redOf es p i ∧ x i = 1)) : costTo es x k ≤ costTo es y k := by
  rw [cost_red es x p N k h, cost_red es y p N k h, sm_congr (f := fun v => p v * outTo es x (v : Int) k) (g := fun v => 0) (fun v hv => by rw [sx v hv, Int.mul_zero]), sm_congr (f := fun v => p v * outTo es y (v : Int) k) (g := fun v => 0) (fun v hv => by rw [sy v hv, Int.mul_zero])]
  have : sm (fun i => redOf es p i * x i) k ≤ sm (fun i => redOf es p i * y i) k := by
    refine sm_le fun i hi => ?_
    have h2 := hy i hi
    rcases hp i hi with g | ⟨g1, g2⟩
    · rw [g]; simp
    · rw [g2]
      exact Int.mul_le_mul_of_nonneg_left h2 (by omega)
  omega

/-- Where as often is walked into each node as out of it, no edge goes into a side that none leaves. -/
theorem round_shut (es : List Ed) (x : Nat → Int) (side : Nat → Bool) (N k : Nat) (h : EndsIn es N k) (hx : ∀ i, i < k → 1 ≤ x i) (sx : ∀ v : Nat, v < N → outTo es x (v : Int) k = 0) (hs : ∀ i, i < k → side (edAt es i).f.toNat = true → side (edAt es i).t.toNat = true) :
    ∀ i, i < k → side (edAt es i).f.toNat = side (edAt es i).t.toNat := by
  have e := out_pot es x (fun v => if side v = true then 1 else 0) N k h
  rw [sm_congr (g := fun _ => 0) (fun v hv => by rw [sx v hv, Int.mul_zero]), sm_zero] at e
  have h0 := sm_eq_of_le (f := fun i => ((if side (edAt es i).f.toNat = true then 1 else 0) - (if side (edAt es i).t.toNat = true then 1 else 0)) * x i) (g := fun _ => 0) (k := k) (fun i hi => by
    have h1 := hx i hi
    have h2 := hs i hi
    revert h2
    cases side (edAt es i).f.toNat <;> cases side (edAt es i).t.toNat <;> simp <;> omega) (by rw [sm_zero]; exact e.symm)
  intro i hi
  have h1 := hx i hi
  have h2 := h0 i hi
  revert h2
  cases side (edAt es i).f.toNat <;> cases side (edAt es i).t.toNat <;> simp <;> omega
end Go.Proofs.YtpdppjngbbkbbaaDoor
