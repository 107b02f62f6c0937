/- The float64 of the model stand in the order of their rungs: plain mathematics. -/
import Ieee.Arith
namespace Go.Proofs.YtnjnmgpjohfjiabDoor.Fl
open Ieee

/-- The magnitude of a rung, in units of the least place. -/
def V (r : Nat) : Nat := if r < 4503599627370496 then r else (4503599627370496 + r % 4503599627370496) * 2 ^ (r / 4503599627370496 - 1)

theorem V_succ (r : Nat) : V r < V (r + 1) := by
  unfold V
  by_cases h1 : r + 1 < 4503599627370496
  · rw [if_pos (by omega), if_pos h1]; omega
  by_cases h2 : r < 4503599627370496
  · have e : r = 4503599627370495 := by omega
    subst e
    rw [if_pos (by omega), if_neg (by omega)]
    decide
  rw [if_neg h2, if_neg h1]
  by_cases h3 : r % 4503599627370496 + 1 < 4503599627370496
  · have e1 : (r + 1) % 4503599627370496 = r % 4503599627370496 + 1 := by omega
    have e2 : (r + 1) / 4503599627370496 = r / 4503599627370496 := by omega
    rw [e1, e2]
    exact Nat.mul_lt_mul_of_pos_right (by omega) (Nat.two_pow_pos _)
  · have e1 : (r + 1) % 4503599627370496 = 0 := by omega
    have e2 : (r + 1) / 4503599627370496 = r / 4503599627370496 + 1 := by omega
    have e3 : r / 4503599627370496 + 1 - 1 = (r / 4503599627370496 - 1) + 1 := by omega
    rw [e1, e2, e3, Nat.pow_succ]
    have hp := Nat.two_pow_pos (r / 4503599627370496 - 1)
    generalize 2 ^ (r / 4503599627370496 - 1) = p at hp
    have hm : r % 4503599627370496 = 4503599627370495 := by omega
    rw [hm]
    omega

theorem V_lt {a b : Nat} (h : a < b) : V a < V b := by
  induction b with
  | zero => omega
  | succ n ih =>
    by_cases e : a = n
    · subst e; exact V_succ a
    · exact Nat.lt_trans (ih (by omega)) (V_succ n)

theorem V_lt_iff (a b : Nat) : V a < V b ↔ a < b := by
  refine ⟨fun h => ?_, V_lt⟩
  by_cases e : a < b
  · exact e
  · by_cases q : b = a
    · subst q; omega
    · have := V_lt (a := b) (b := a) (by omega); omega

/-- No number. -/
def nan (x : Nat) : Prop := 9218868437227405312 < x % 9223372036854775808
instance (x : Nat) : Decidable (nan x) := inferInstanceAs (Decidable (_ < _))

/-- The rung with its sign. -/
def sr (x : Nat) : Int := if x / 9223372036854775808 % 2 = 1 then -((x % 9223372036854775808 : Nat) : Int) else ((x % 9223372036854775808 : Nat) : Int)

theorem read_nan (x : Nat) (h : nan x) : ∃ s t, double.read x = .nan s t := by
  unfold nan at h
  refine ⟨x / 9223372036854775808 % 2 == 1, x % 9223372036854775808 - 9218868437227405312, ?_⟩
  show (if x % 9223372036854775808 < 4503599627370496 then _ else if x % 9223372036854775808 < 9218868437227405312 then _ else if x % 9223372036854775808 = 9218868437227405312 then _ else _) = _
  rw [if_neg (by omega), if_neg (by omega), if_neg (by omega)]
  rfl

theorem read_inf (x : Nat) (h : x % 9223372036854775808 = 9218868437227405312) : double.read x = .infinity (x / 9223372036854775808 % 2 == 1) := by
  show (if x % 9223372036854775808 < 4503599627370496 then _ else if x % 9223372036854775808 < 9218868437227405312 then _ else if x % 9223372036854775808 = 9218868437227405312 then _ else _) = _
  rw [if_neg (by omega), if_neg (by omega), if_pos h]
  rfl

/-- A number: its digits and its place, and what they make. -/
theorem read_num (x : Nat) (h : x % 9223372036854775808 < 9218868437227405312) :
    ∃ m a : Nat, double.read x = .number (x / 9223372036854775808 % 2 == 1) m (-1074 + (a : Int)) ∧ m * 2 ^ a = V (x % 9223372036854775808) := by
  by_cases h1 : x % 9223372036854775808 < 4503599627370496
  · refine ⟨x % 9223372036854775808, 0, ?_, by rw [Nat.pow_zero, Nat.mul_one]; unfold V; rw [if_pos h1]⟩
    show (if x % 9223372036854775808 < 4503599627370496 then _ else if x % 9223372036854775808 < 9218868437227405312 then _ else if x % 9223372036854775808 = 9218868437227405312 then _ else _) = _
    rw [if_pos h1]
    rfl
  · refine ⟨4503599627370496 + x % 9223372036854775808 % 4503599627370496, x % 9223372036854775808 / 4503599627370496 - 1, ?_, by unfold V; rw [if_neg h1]⟩
    show (if x % 9223372036854775808 < 4503599627370496 then _ else if x % 9223372036854775808 < 9218868437227405312 then _ else if x % 9223372036854775808 = 9218868437227405312 then _ else _) = _
    rw [if_neg h1, if_pos h]
    rfl

def sgn (b : Bool) (n : Nat) : Int := if b then -(n : Int) else (n : Int)

theorem compare_int (a b c d : Int) (h1 : a < b ↔ c < d) (h2 : b < a ↔ d < c) : compare a b = compare c d := by
  show compareOfLessAndEq a b = compareOfLessAndEq c d
  unfold compareOfLessAndEq
  by_cases e1 : a < b
  · rw [if_pos e1, if_pos (h1.1 e1)]
  · rw [if_neg e1, if_neg (fun h => e1 (h1.2 h))]
    by_cases e2 : b < a
    · rw [if_neg (by omega), if_neg (by have := h2.1 e2; omega)]
    · rw [if_pos (by omega), if_pos (by have := mt h2.2 e2; have := mt h1.2 e1; omega)]

theorem sgn_lt (s t : Bool) (a b p q : Nat) (h1 : a < b ↔ p < q) (h2 : b < a ↔ q < p) (h3 : a = 0 ↔ p = 0) (h4 : b = 0 ↔ q = 0) : sgn s a < sgn t b ↔ sgn s p < sgn t q := by
  unfold sgn
  cases s <;> cases t <;> simp only [Bool.false_eq_true, if_false, if_true] <;> omega

theorem V_zero (r : Nat) : V r = 0 ↔ r = 0 := by
  constructor
  · intro h
    by_cases e : r = 0
    · exact e
    · have := V_lt (a := 0) (b := r) (by omega); omega
  · intro h; subst h; decide

theorem cut_lt (m n a b : Nat) : (m <<< (a - min a b) < n <<< (b - min a b) ↔ m * 2 ^ a < n * 2 ^ b) := by
  rw [Nat.shiftLeft_eq, Nat.shiftLeft_eq]
  have hp := Nat.two_pow_pos (min a b)
  have e1 : m * 2 ^ a = (m * 2 ^ (a - min a b)) * 2 ^ (min a b) := by rw [Nat.mul_assoc, ← Nat.pow_add]; congr 2; omega
  have e2 : n * 2 ^ b = (n * 2 ^ (b - min a b)) * 2 ^ (min a b) := by rw [Nat.mul_assoc, ← Nat.pow_add]; congr 2; omega
  rw [e1, e2]
  exact (Nat.mul_lt_mul_right hp).symm

theorem cut_zero (m a k : Nat) : m <<< k = 0 ↔ m * 2 ^ a = 0 := by
  rw [Nat.shiftLeft_eq]
  have h1 := Nat.two_pow_pos a
  have h2 := Nat.two_pow_pos k
  constructor
  · intro h; have := (Nat.mul_eq_zero.1 h).resolve_right (by omega); subst this; simp
  · intro h; have := (Nat.mul_eq_zero.1 h).resolve_right (by omega); subst this; simp

theorem sr_sgn (x : Nat) : sr x = sgn (x / 9223372036854775808 % 2 == 1) (x % 9223372036854775808) := by
  unfold sr sgn
  by_cases h : x / 9223372036854775808 % 2 = 1
  · rw [if_pos h, if_pos (by rw [h]; rfl)]
  · rw [if_neg h, if_neg (by simpa using h)]

theorem order_eq (x y : Nat) (hx : ¬ nan x) (hy : ¬ nan y) : double.order x y = some (compare (sr x) (sr y)) := by
  unfold Format.order
  unfold nan at hx hy
  have ex := sr_sgn x
  have ey := sr_sgn y
  rw [ex, ey]
  clear ex ey
  by_cases ix : x % 9223372036854775808 = 9218868437227405312
  · by_cases iy : y % 9223372036854775808 = 9218868437227405312
    · rw [read_inf x ix, read_inf y iy, ix, iy]
      generalize (x / 9223372036854775808 % 2 == 1) = s
      generalize (y / 9223372036854775808 % 2 == 1) = t
      cases s <;> cases t <;> decide
    · obtain ⟨n, b, e2, v2⟩ := read_num y (by omega)
      rw [read_inf x ix, e2, ix]
      generalize (x / 9223372036854775808 % 2 == 1) = s
      generalize (y / 9223372036854775808 % 2 == 1) = t
      have hb : y % 9223372036854775808 < 9218868437227405312 := by omega
      generalize y % 9223372036854775808 = r at hb
      show some (if s then Ordering.lt else .gt) = _
      refine congrArg some ?_
      show _ = compareOfLessAndEq _ _
      unfold compareOfLessAndEq sgn
      cases s
      · rw [if_neg (by decide), if_neg (by cases t <;> simp <;> omega), if_neg (by cases t <;> simp <;> omega)]
      · rw [if_pos rfl, if_pos (by cases t <;> simp <;> omega)]
  · obtain ⟨m, a, e1, v1⟩ := read_num x (by omega)
    by_cases iy : y % 9223372036854775808 = 9218868437227405312
    · rw [read_inf y iy, e1, iy]
      generalize (x / 9223372036854775808 % 2 == 1) = s
      generalize (y / 9223372036854775808 % 2 == 1) = t
      have hb : x % 9223372036854775808 < 9218868437227405312 := by omega
      generalize x % 9223372036854775808 = r at hb
      show some (if t then Ordering.gt else .lt) = _
      refine congrArg some ?_
      show _ = compareOfLessAndEq _ _
      unfold compareOfLessAndEq sgn
      cases t
      · rw [if_neg (by decide), if_pos (by cases s <;> simp <;> omega)]
      · rw [if_pos rfl, if_neg (by cases s <;> simp <;> omega), if_neg (by cases s <;> simp <;> omega)]
    · obtain ⟨n, b, e2, v2⟩ := read_num y (by omega)
      rw [e1, e2]
      generalize (x / 9223372036854775808 % 2 == 1) = s
      generalize (y / 9223372036854775808 % 2 == 1) = t
      show some (compare (signed s m (-1074 + (a : Int) - min (-1074 + (a : Int)) (-1074 + (b : Int))).toNat) (signed t n (-1074 + (b : Int) - min (-1074 + (a : Int)) (-1074 + (b : Int))).toNat)) = _
      have q1 : (-1074 + (a : Int) - min (-1074 + (a : Int)) (-1074 + (b : Int))).toNat = a - min a b := by omega
      have q2 : (-1074 + (b : Int) - min (-1074 + (a : Int)) (-1074 + (b : Int))).toNat = b - min a b := by omega
      rw [q1, q2]
      refine congrArg some ?_
      have l1 := cut_lt m n a b
      have l2 := cut_lt n m b a
      rw [Nat.min_comm b a] at l2
      rw [v1, v2, V_lt_iff] at l1
      rw [v1, v2, V_lt_iff] at l2
      have z1 : m <<< (a - min a b) = 0 ↔ x % 9223372036854775808 = 0 := by rw [cut_zero m a, v1, V_zero]
      have z2 : n <<< (b - min a b) = 0 ↔ y % 9223372036854775808 = 0 := by rw [cut_zero n b, v2, V_zero]
      exact compare_int _ _ _ _ (sgn_lt s t _ _ _ _ l1 l2 z1 z2) (sgn_lt t s _ _ _ _ l2 l1 z2 z1)

theorem order_nan1 (x y : Nat) (h : nan x) : double.order x y = none := by
  unfold Format.order
  obtain ⟨s, t, e⟩ := read_nan x h
  rw [e]
  rfl
theorem order_nan2 (x y : Nat) (h : nan y) : double.order x y = none := by
  unfold Format.order
  obtain ⟨s, t, e⟩ := read_nan y h
  rw [e]
  cases double.read x <;> rfl

theorem lt_iff (x y : Nat) (hx : ¬ nan x) (hy : ¬ nan y) : (double.order x y == some .lt) = decide (sr x < sr y) := by
  rw [order_eq x y hx hy]
  show (some (compareOfLessAndEq _ _) == _) = _
  unfold compareOfLessAndEq
  by_cases h : sr x < sr y
  · rw [if_pos h, decide_eq_true h]; rfl
  · rw [if_neg h, decide_eq_false h]; split <;> rfl
theorem gt_iff (x y : Nat) (hx : ¬ nan x) (hy : ¬ nan y) : (double.order x y == some .gt) = decide (sr y < sr x) := by
  rw [order_eq x y hx hy]
  show (some (compareOfLessAndEq _ _) == _) = _
  unfold compareOfLessAndEq
  by_cases h : sr x < sr y
  · rw [if_pos h, decide_eq_false (by omega)]; rfl
  · rw [if_neg h]
    by_cases e : sr x = sr y
    · rw [if_pos e, decide_eq_false (by omega)]; rfl
    · rw [if_neg e, decide_eq_true (by omega)]; rfl
theorem eq_iff (x y : Nat) (hx : ¬ nan x) (hy : ¬ nan y) : (double.order x y == some .eq) = decide (sr x = sr y) := by
  rw [order_eq x y hx hy]
  show (some (compareOfLessAndEq _ _) == _) = _
  unfold compareOfLessAndEq
  by_cases h : sr x < sr y
  · rw [if_pos h, decide_eq_false (by omega)]; rfl
  · rw [if_neg h]
    by_cases e : sr x = sr y
    · rw [if_pos e, decide_eq_true (by omega)]; rfl
    · rw [if_neg e, decide_eq_false (by omega)]; rfl
theorem nan_iff (x : Nat) : (double.order x x == some .eq) = decide (¬ nan x) := by
  by_cases h : nan x
  · rw [order_nan1 x x h, decide_eq_false (by simpa using h)]; rfl
  · rw [eq_iff x x h h, decide_eq_true rfl, decide_eq_true h]
end Go.Proofs.YtnjnmgpjohfjiabDoor.Fl
