/- Rounding to a float64: plain mathematics. -/
import Ieee.Arith
namespace Go.Proofs.YtnjnmgpjohfjiabDoor.Fl
open Ieee

/-- A / B as a whole number: the nearest, of two the even one. -/
def half (A B : Nat) : Nat := A / B + (if B < 2 * (A % B) ∨ (2 * (A % B) = B ∧ A / B % 2 = 1) then 1 else 0)

/-- m without its last d digits, rounded; s: something is left over below. -/
def off (m : Nat) (s : Bool) (d : Nat) : Nat := m / 2 ^ d + (if 2 ^ d < 2 * (m % 2 ^ d) ∨ (2 * (m % 2 ^ d) = 2 ^ d ∧ (s = true ∨ m / 2 ^ d % 2 = 1)) then 1 else 0)

theorem half_scale (A B c : Nat) (hc : 0 < c) : half (A * c) (B * c) = half A B := by
  unfold half
  rw [Nat.mul_div_mul_right _ _ hc, Nat.mul_mod_mul_right]
  have e1 : (B * c < 2 * (A % B * c)) ↔ B < 2 * (A % B) := by
    rw [← Nat.mul_assoc]; exact Nat.mul_lt_mul_right hc
  have e2 : (2 * (A % B * c) = B * c) ↔ 2 * (A % B) = B := by
    rw [← Nat.mul_assoc]; exact Nat.mul_left_inj (by omega)
  simp only [e1, e2]

theorem half_same (A B C D : Nat) (hb : 0 < B) (hd : 0 < D) (h : A * D = C * B) : half A B = half C D := by
  rw [← half_scale A B D hd, ← half_scale C D B hb, h, Nat.mul_comm B D]

theorem off_half (p q d : Nat) (hq : 0 < q) (hd : 0 < d) : off (p / q) (p % q != 0) d = half p (q * 2 ^ d) := by
  obtain ⟨k, rfl⟩ : ∃ k, d = k + 1 := ⟨d - 1, by omega⟩
  unfold off half
  have hp := Nat.two_pow_pos k
  rw [Nat.pow_succ]
  generalize 2 ^ k = h at hp
  rw [Nat.div_div_eq_div_mul]
  have e : p % (q * (h * 2)) = q * (p / q % (h * 2)) + p % q := by
    rw [Nat.mod_mul]; omega
  rw [e]
  have hr := Nat.mod_lt p hq
  generalize p / (q * (h * 2)) = z
  generalize p / q % (h * 2) = x
  generalize p % q = r at hr
  have E1 : (q * (h * 2) < 2 * (q * x + r) ∨ (2 * (q * x + r) = q * (h * 2) ∧ z % 2 = 1)) ↔ (h * 2 < 2 * x ∨ (2 * x = h * 2 ∧ ((r != 0) = true ∨ z % 2 = 1))) := by
    have a1 : q * (h * 2) = 2 * (q * h) := by rw [Nat.mul_comm h 2, Nat.mul_left_comm]
    rw [a1]
    by_cases c1 : x < h
    · have : q * x + q ≤ q * h := by
        have := Nat.mul_le_mul_left q (show x + 1 ≤ h by omega)
        rw [Nat.mul_succ] at this; exact this
      constructor
      · rintro (h1 | ⟨h1, _⟩) <;> omega
      · rintro (h1 | ⟨h1, _⟩) <;> omega
    · by_cases c2 : x = h
      · subst c2
        constructor
        · rintro (h1 | ⟨h1, h2⟩)
          · right; exact ⟨by omega, .inl (by simp; omega)⟩
          · right; exact ⟨by omega, .inr h2⟩
        · rintro (h1 | ⟨h1, h2 | h2⟩)
          · omega
          · left; simp at h2; omega
          · by_cases c3 : r = 0
            · right; exact ⟨by omega, h2⟩
            · left; omega
      · have : q * h + q ≤ q * x := by
          have := Nat.mul_le_mul_left q (show h + 1 ≤ x by omega)
          rw [Nat.mul_succ] at this; exact this
        constructor
        · intro _; left; omega
        · intro _; left; omega
  by_cases c : (h * 2 < 2 * x ∨ (2 * x = h * 2 ∧ ((r != 0) = true ∨ z % 2 = 1)))
  · rw [if_pos c, if_pos (E1.2 c)]
  · rw [if_neg c, if_neg (fun t => c (E1.1 t))]

theorem off_plain (m d : Nat) : off m false d = half m (2 ^ d) := by
  unfold off half
  simp

/-- The rung of so many units of a place. -/
def top (kept : Nat) (last : Int) : Nat := min ((last + 1074).toNat * 4503599627370496 + kept) 9218868437227405312

/-- The last place that is kept of m times 2^e. -/
def lastOf (m : Nat) (e : Int) : Int := max (e + (m.log2 : Int) - 52) (-1074)

/-- The rung of the float64 nearest to m (and a little more, if s) times 2^e. -/
def near (m : Nat) (s : Bool) (e : Int) : Nat :=
  top (if lastOf m e ≤ e then m * 2 ^ (e - lastOf m e).toNat else off m s (lastOf m e - e).toNat) (lastOf m e)

theorem cut_even (neg : Bool) (n drop : Nat) : Toward.even.cut neg n drop = half n (2 ^ drop) := by
  show n / (1 <<< min drop (n.log2 + 2)) + (decide (1 <<< min drop (n.log2 + 2) < 2 * (n % (1 <<< min drop (n.log2 + 2)))) || (1 <<< min drop (n.log2 + 2) == 2 * (n % (1 <<< min drop (n.log2 + 2))) && n / (1 <<< min drop (n.log2 + 2)) % 2 == 1)).toNat = _
  rw [Nat.one_shiftLeft]
  by_cases h : drop ≤ n.log2 + 2
  · rw [Nat.min_eq_left h]
    unfold half
    generalize 2 ^ drop = B
    congr 1
    by_cases c : B < 2 * (n % B) ∨ (2 * (n % B) = B ∧ n / B % 2 = 1)
    · rw [if_pos c]
      rcases c with c | ⟨c1, c2⟩
      · rw [decide_eq_true c]; rfl
      · rw [c1, c2]; simp
    · rw [if_neg c]
      have c1 : ¬ B < 2 * (n % B) := fun t => c (.inl t)
      rw [decide_eq_false c1]
      by_cases c2 : 2 * (n % B) = B
      · have c3 : ¬ n / B % 2 = 1 := fun t => c (.inr ⟨c2, t⟩)
        simp [c3]
      · have : (B == 2 * (n % B)) = false := by simp; omega
        rw [this]; rfl
  · rw [Nat.min_eq_right (by omega)]
    have h1 : n < 2 ^ (n.log2 + 1) := Nat.lt_log2_self
    have h2 : 2 ^ (n.log2 + 2) = 2 * 2 ^ (n.log2 + 1) := by rw [Nat.pow_succ]; omega
    have h3 : 2 ^ (n.log2 + 2) ≤ 2 ^ drop := Nat.pow_le_pow_right (by omega) (by omega)
    unfold half
    have m1 : n % 2 ^ (n.log2 + 2) = n := Nat.mod_eq_of_lt (by omega)
    have m2 : n % 2 ^ drop = n := Nat.mod_eq_of_lt (by omega)
    rw [Nat.div_eq_of_lt (show n < 2 ^ (n.log2 + 2) by omega), Nat.div_eq_of_lt (show n < 2 ^ drop by omega), m1, m2]
    rw [if_neg (by omega), decide_eq_false (by omega)]
    have : (2 ^ (n.log2 + 2) == 2 * n) = false := by simp; omega
    rw [this]; rfl

/-- The model's rounding. -/
theorem nearest_eq (neg : Bool) (m : Nat) (e : Int) (hm : m ≠ 0) : double.nearest neg m e = double.word neg (near m false e) := by
  have h0 : double.nearest neg m e = double.word neg (min ((lastOf m e - -1074).toNat * 4503599627370496 + Toward.even.cut neg (m <<< (e - lastOf m e).toNat) (lastOf m e - e).toNat) 9218868437227405312) := by
    show (if m = 0 then _ else _) = _
    rw [if_neg hm]
    rfl
  rw [h0, cut_even]
  unfold near top
  have e1 : lastOf m e - -1074 = lastOf m e + 1074 := by omega
  rw [e1]
  congr 3
  by_cases h : lastOf m e ≤ e
  · rw [if_pos h]
    have : (lastOf m e - e).toNat = 0 := by omega
    rw [this, Nat.shiftLeft_eq]
    unfold half
    simp
    omega
  · rw [if_neg h, off_plain]
    have : (e - lastOf m e).toNat = 0 := by omega
    rw [this]
    rfl

theorem log2_unique (m k : Nat) (h1 : 2 ^ k ≤ m) (h2 : m < 2 ^ (k + 1)) : m.log2 = k := by
  have hm : m ≠ 0 := by have := Nat.two_pow_pos k; omega
  exact (Nat.log2_eq_iff hm).2 ⟨h1, h2⟩

theorem log2_lo {m : Nat} (hm : m ≠ 0) : 2 ^ m.log2 ≤ m := Nat.log2_self_le hm
theorem log2_hi (m : Nat) : m < 2 ^ (m.log2 + 1) := Nat.lt_log2_self

theorem off_shift (m : Nat) (s : Bool) (d k : Nat) : off (m * 2 ^ k) s (d + k) = off m s d := by
  unfold off
  have hp := Nat.two_pow_pos k
  rw [Nat.pow_add, Nat.mul_div_mul_right _ _ hp, Nat.mul_mod_mul_right]
  have e1 : (2 ^ d * 2 ^ k < 2 * (m % 2 ^ d * 2 ^ k)) ↔ 2 ^ d < 2 * (m % 2 ^ d) := by
    rw [← Nat.mul_assoc]; exact Nat.mul_lt_mul_right hp
  have e2 : (2 * (m % 2 ^ d * 2 ^ k) = 2 ^ d * 2 ^ k) ↔ 2 * (m % 2 ^ d) = 2 ^ d := by
    rw [← Nat.mul_assoc]; exact Nat.mul_left_inj (by omega)
  simp only [e1, e2]

theorem last_shift (m k : Nat) (e : Int) (hm : m ≠ 0) : lastOf (m * 2 ^ k) (e - k) = lastOf m e := by
  have h : (m * 2 ^ k).log2 = m.log2 + k := by
    refine log2_unique _ _ ?_ ?_
    · rw [Nat.pow_add]; exact Nat.mul_le_mul_right _ (log2_lo hm)
    · rw [show m.log2 + k + 1 = (m.log2 + 1) + k by omega, Nat.pow_add]
      exact Nat.mul_lt_mul_of_pos_right (log2_hi m) (Nat.two_pow_pos k)
  unfold lastOf
  rw [h]
  congr 1
  omega

/-- Scaled digits are rounded alike. -/
theorem near_shift (m k : Nat) (s : Bool) (e : Int) (hm : m ≠ 0) (hs : s = true → e < lastOf m e) : near (m * 2 ^ k) s (e - k) = near m s e := by
  unfold near
  rw [last_shift m k e hm]
  generalize lastOf m e = l at hs
  congr 1
  by_cases h : l ≤ e
  · have hs' : s = false := by cases s; rfl; exact absurd (hs rfl) (by omega)
    subst hs'
    rw [if_pos h]
    by_cases h2 : l ≤ e - k
    · rw [if_pos h2, Nat.mul_assoc, ← Nat.pow_add]
      congr 2
      omega
    · rw [if_neg h2, off_plain]
      obtain ⟨u, hu⟩ : ∃ u : Nat, (u : Int) = e - l := ⟨(e - l).toNat, by omega⟩
      obtain ⟨v, hv⟩ : ∃ v : Nat, (v : Int) = l - (e - k) := ⟨(l - (e - k)).toNat, by omega⟩
      have hk : k = u + v := by omega
      have e1 : (l - (e - (k : Int))).toNat = v := by omega
      have e2 : (e - l).toNat = u := by omega
      rw [e1, e2, hk, Nat.pow_add, ← Nat.mul_assoc]
      unfold half
      rw [Nat.mul_div_cancel _ (Nat.two_pow_pos v), Nat.mul_mod_left, if_neg (by have := Nat.two_pow_pos v; omega)]
      rfl
  · rw [if_neg h, if_neg (by omega)]
    have : (l - (e - (k : Int))).toNat = (l - e).toNat + k := by omega
    rw [this, off_shift]

/-- What is left over below may as well be a digit. -/
theorem near_sticky (m : Nat) (s : Bool) (e : Int) (hm : m ≠ 0) (hd : e < lastOf m e) : near (2 * m + s.toNat) false (e - 1) = near m s e := by
  have hl : (2 * m + s.toNat).log2 = m.log2 + 1 := by
    have h1 := log2_lo hm
    have h2 := log2_hi m
    refine log2_unique _ _ ?_ ?_
    · rw [Nat.pow_succ]; omega
    · rw [Nat.pow_succ]; have : s.toNat ≤ 1 := by cases s <;> decide
      omega
  have hll : lastOf (2 * m + s.toNat) (e - 1) = lastOf m e := by
    unfold lastOf; rw [hl]; congr 1; omega
  unfold near
  rw [hll]
  generalize lastOf m e = l at hd
  rw [if_neg (by omega), if_neg (by omega)]
  congr 1
  have e1 : (l - (e - 1)).toNat = (l - e).toNat + 1 := by omega
  rw [e1, off_plain]
  have hpos : 0 < (l - e).toNat := by omega
  generalize (l - e).toNat = d at hpos
  have := off_half (2 * m + s.toNat) 2 d (by omega) hpos
  rw [Nat.pow_succ, Nat.mul_comm (2 ^ d) 2, ← this]
  have q1 : (2 * m + s.toNat) / 2 = m := by cases s <;> simp <;> omega
  have q2 : ((2 * m + s.toNat) % 2 != 0) = s := by cases s <;> simp <;> omega
  rw [q1, q2]

/-- Two whole parts of one fraction are rounded alike. -/
theorem near_same (p1 q1 p2 q2 : Nat) (e1 e2 : Int) (h1 : 0 < q1) (h2 : 0 < q2) (n1 : 9007199254740992 ≤ p1 / q1) (n2 : 9007199254740992 ≤ p2 / q2)
    (h : p1 * q2 * 2 ^ (e1 - e2).toNat = p2 * q1 * 2 ^ (e2 - e1).toNat) :
    near (p1 / q1) (p1 % q1 != 0) e1 = near (p2 / q2) (p2 % q2 != 0) e2 := by
  have lo1 := log2_lo (m := p1 / q1) (by omega)
  have hi1 := log2_hi (p1 / q1)
  have lo2 := log2_lo (m := p2 / q2) (by omega)
  have hi2 := log2_hi (p2 / q2)
  have g1 : 53 ≤ (p1 / q1).log2 := by
    by_cases c : 53 ≤ (p1 / q1).log2
    · exact c
    · have : 2 ^ ((p1 / q1).log2 + 1) ≤ 2 ^ 53 := Nat.pow_le_pow_right (by omega) (by omega)
      omega
  have g2 : 53 ≤ (p2 / q2).log2 := by
    by_cases c : 53 ≤ (p2 / q2).log2
    · exact c
    · have : 2 ^ ((p2 / q2).log2 + 1) ≤ 2 ^ 53 := Nat.pow_le_pow_right (by omega) (by omega)
      omega
  have hl : e1 + ((p1 / q1).log2 : Int) = e2 + ((p2 / q2).log2 : Int) := by
    have a1 : 2 ^ (p1 / q1).log2 * q1 ≤ p1 := (Nat.le_div_iff_mul_le h1).1 lo1
    have a2 : p1 < 2 ^ ((p1 / q1).log2 + 1) * q1 := (Nat.div_lt_iff_lt_mul h1).1 hi1
    have a3 : 2 ^ (p2 / q2).log2 * q2 ≤ p2 := (Nat.le_div_iff_mul_le h2).1 lo2
    have a4 : p2 < 2 ^ ((p2 / q2).log2 + 1) * q2 := (Nat.div_lt_iff_lt_mul h2).1 hi2
    generalize (p1 / q1).log2 = l1 at a1 a2
    generalize (p2 / q2).log2 = l2 at a3 a4
    generalize hu : (e1 - e2).toNat = u at h
    generalize hv : (e2 - e1).toNat = v at h
    -- 2^(l1+u) q1 q2 ≤ p1 q2 2^u = p2 q1 2^v < 2^(l2+1+v) q1 q2
    have hqq : 0 < q1 * q2 := Nat.mul_pos h1 h2
    have b1 : 2 ^ (l1 + u) * (q1 * q2) < 2 ^ (l2 + 1 + v) * (q1 * q2) := by
      calc 2 ^ (l1 + u) * (q1 * q2) = (2 ^ l1 * q1) * (q2 * 2 ^ u) := by rw [Nat.pow_add]; ac_rfl
        _ ≤ p1 * (q2 * 2 ^ u) := Nat.mul_le_mul_right _ a1
        _ = p2 * q1 * 2 ^ v := by rw [← h]; ac_rfl
        _ = p2 * (q1 * 2 ^ v) := by ac_rfl
        _ < (2 ^ (l2 + 1) * q2) * (q1 * 2 ^ v) := Nat.mul_lt_mul_of_pos_right a4 (Nat.mul_pos h1 (Nat.two_pow_pos v))
        _ = 2 ^ (l2 + 1 + v) * (q1 * q2) := by rw [Nat.pow_add 2 (l2 + 1) v]; ac_rfl
    have b2 : 2 ^ (l2 + v) * (q1 * q2) < 2 ^ (l1 + 1 + u) * (q1 * q2) := by
      calc 2 ^ (l2 + v) * (q1 * q2) = (2 ^ l2 * q2) * (q1 * 2 ^ v) := by rw [Nat.pow_add]; ac_rfl
        _ ≤ p2 * (q1 * 2 ^ v) := Nat.mul_le_mul_right _ a3
        _ = p1 * q2 * 2 ^ u := by rw [h]; ac_rfl
        _ = p1 * (q2 * 2 ^ u) := by ac_rfl
        _ < (2 ^ (l1 + 1) * q1) * (q2 * 2 ^ u) := Nat.mul_lt_mul_of_pos_right a2 (Nat.mul_pos h2 (Nat.two_pow_pos u))
        _ = 2 ^ (l1 + 1 + u) * (q1 * q2) := by rw [Nat.pow_add 2 (l1 + 1) u]; ac_rfl
    have c1 := (Nat.pow_lt_pow_iff_right (by omega : 1 < 2)).1 ((Nat.mul_lt_mul_right hqq).1 b1)
    have c2 := (Nat.pow_lt_pow_iff_right (by omega : 1 < 2)).1 ((Nat.mul_lt_mul_right hqq).1 b2)
    omega
  have hlast : lastOf (p1 / q1) e1 = lastOf (p2 / q2) e2 := by
    unfold lastOf; rw [hl]
  have f1 : e1 < lastOf (p1 / q1) e1 := by unfold lastOf; omega
  have f2 : e2 < lastOf (p2 / q2) e2 := by unfold lastOf; omega
  unfold near
  rw [if_neg (by omega), if_neg (by omega), hlast]
  rw [hlast] at f1
  generalize lastOf (p2 / q2) e2 = l at f1 f2
  congr 1
  rw [off_half _ _ _ h1 (by omega), off_half _ _ _ h2 (by omega)]
  refine half_same _ _ _ _ (Nat.mul_pos h1 (Nat.two_pow_pos _)) (Nat.mul_pos h2 (Nat.two_pow_pos _)) ?_
  by_cases c : e1 ≤ e2
  · obtain ⟨v, hv⟩ : ∃ v : Nat, (v : Int) = e2 - e1 := ⟨(e2 - e1).toNat, by omega⟩
    have x1 : (e1 - e2).toNat = 0 := by omega
    have x2 : (e2 - e1).toNat = v := by omega
    have x3 : (l - e1).toNat = (l - e2).toNat + v := by omega
    rw [x1, x2, Nat.pow_zero, Nat.mul_one] at h
    rw [x3, Nat.pow_add]
    calc p1 * (q2 * 2 ^ (l - e2).toNat) = (p1 * q2) * 2 ^ (l - e2).toNat := by ac_rfl
      _ = _ := by rw [h]; ac_rfl
  · obtain ⟨v, hv⟩ : ∃ v : Nat, (v : Int) = e1 - e2 := ⟨(e1 - e2).toNat, by omega⟩
    have x1 : (e1 - e2).toNat = v := by omega
    have x2 : (e2 - e1).toNat = 0 := by omega
    have x3 : (l - e2).toNat = (l - e1).toNat + v := by omega
    rw [x1, x2, Nat.pow_zero, Nat.mul_one] at h
    rw [x3, Nat.pow_add]
    calc p1 * (q2 * (2 ^ (l - e1).toNat * 2 ^ v)) = (p1 * q2 * 2 ^ v) * 2 ^ (l - e1).toNat := by ac_rfl
      _ = _ := by rw [h]; ac_rfl
end Go.Proofs.YtnjnmgpjohfjiabDoor.Fl
