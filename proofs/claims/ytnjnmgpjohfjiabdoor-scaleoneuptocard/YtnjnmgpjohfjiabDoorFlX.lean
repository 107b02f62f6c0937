/- Numbers that a float64 holds exactly, and the quotient of two: plain mathematics. -/
import Derived.Test.YtnjnmgpjohfjiabDoorFl
import Derived.Test.YtnjnmgpjohfjiabDoorFlR
namespace Go.Proofs.YtnjnmgpjohfjiabDoor.Fl
open Ieee

theorem top_fits (L K : Nat) (h : L ≤ 2045) (k : K < 9007199254740992) : L * 4503599627370496 + K ≤ 9218868437227405312 := by omega
theorem top_fits' (L K : Nat) (h : L ≤ 2045) (k : K < 9007199254740992) : L * 4503599627370496 + K < 9218868437227405312 := by omega

theorem cross (m n A B C D Pa Pb Pk Px Py : Nat) (h1 : m * Pa = A * C) (h2 : n * Pb = B * C) (h3 : Pk * Px * Pb = D * Py * Pa) (hC : 0 < C) (ha : 0 < Pa) (hb : 0 < Pb) : m * Pk * B * Px = A * D * n * Py := by
  refine Nat.eq_of_mul_eq_mul_right (Nat.mul_pos (Nat.mul_pos hC ha) hb) ?_
  calc m * Pk * B * Px * (C * Pa * Pb) = (m * Pa) * (B * C) * (Pk * Px * Pb) := by ac_rfl
    _ = (A * C) * (n * Pb) * (D * Py * Pa) := by rw [h1, ← h2, h3]
    _ = A * D * n * Py * (C * Pa * Pb) := by ac_rfl

theorem near_exact (m : Nat) (e : Int) (hm : m ≠ 0) (h53 : m < 9007199254740992) (he : -1074 ≤ e) (hb : e + (m.log2 : Int) ≤ 1023) :
    near m false e < 9218868437227405312 ∧ V (near m false e) = m * 2 ^ (e + 1074).toNat := by
  have hl : m.log2 ≤ 52 := by
    have h1 := log2_lo hm
    by_cases c : m.log2 ≤ 52
    · exact c
    · have : 2 ^ 53 ≤ 2 ^ m.log2 := Nat.pow_le_pow_right (by omega) (by omega)
      omega
  have h1 := log2_lo hm
  have h2 := log2_hi m
  by_cases c : e + (m.log2 : Int) - 52 ≤ -1074
  · have hlast : lastOf m e = -1074 := by unfold lastOf; omega
    obtain ⟨k, hk⟩ : ∃ k : Nat, (k : Int) = e + 1074 := ⟨(e + 1074).toNat, by omega⟩
    have e1 : (e + 1074).toNat = k := by omega
    have e2 : (e - -1074).toNat = k := by omega
    have hK : m * 2 ^ k < 9007199254740992 := by
      calc m * 2 ^ k < 2 ^ (m.log2 + 1) * 2 ^ k := Nat.mul_lt_mul_of_pos_right h2 (Nat.two_pow_pos k)
        _ = 2 ^ (m.log2 + 1 + k) := by rw [← Nat.pow_add]
        _ ≤ 2 ^ 53 := Nat.pow_le_pow_right (by omega) (by omega)
        _ = 9007199254740992 := by decide
    have hn : near m false e = m * 2 ^ k := by
      unfold near
      rw [hlast, if_pos he, e2]
      unfold top
      rw [show ((-1074 : Int) + 1074).toNat = 0 by decide]
      omega
    rw [hn, e1]
    refine ⟨by omega, ?_⟩
    generalize m * 2 ^ k = K at hK
    unfold V
    by_cases q : K < 4503599627370496
    · rw [if_pos q]
    · rw [if_neg q]
      have : K / 4503599627370496 - 1 = 0 := by omega
      rw [this, Nat.pow_zero]
      omega
  · obtain ⟨L, hL⟩ : ∃ L : Nat, (L : Int) = e + (m.log2 : Int) - 52 + 1074 := ⟨(e + (m.log2 : Int) - 52 + 1074).toNat, by omega⟩
    have hlast : lastOf m e = (L : Int) - 1074 := by unfold lastOf; omega
    have e2 : (e - ((L : Int) - 1074)).toNat = 52 - m.log2 := by omega
    have e3 : ((L : Int) - 1074 + 1074).toNat = L := by omega
    have e4 : (e + 1074).toNat = L + (52 - m.log2) := by omega
    obtain ⟨K, hKe⟩ : ∃ K, m * 2 ^ (52 - m.log2) = K := ⟨_, rfl⟩
    have k1 : 4503599627370496 ≤ K := by
      rw [← hKe]
      calc 4503599627370496 = 2 ^ m.log2 * 2 ^ (52 - m.log2) := by rw [← Nat.pow_add, show m.log2 + (52 - m.log2) = 52 by omega]
        _ ≤ m * 2 ^ (52 - m.log2) := Nat.mul_le_mul_right _ h1
    have k2 : K < 9007199254740992 := by
      rw [← hKe]
      calc m * 2 ^ (52 - m.log2) < 2 ^ (m.log2 + 1) * 2 ^ (52 - m.log2) := Nat.mul_lt_mul_of_pos_right h2 (Nat.two_pow_pos _)
        _ = 9007199254740992 := by rw [← Nat.pow_add, show m.log2 + 1 + (52 - m.log2) = 53 by omega]
    have hL2 : L ≤ 2045 := by omega
    have hn : near m false e = L * 4503599627370496 + K := by
      unfold near
      rw [hlast, if_pos (by omega), e2, hKe]
      unfold top
      rw [e3, Nat.min_eq_left (top_fits L K hL2 k2)]
    rw [hn, e4]
    refine ⟨top_fits' L K hL2 k2, ?_⟩
    clear hn e2 e3 e4 hlast hL c h1 h2 hl hb he
    unfold V
    rw [if_neg (show ¬ L * 4503599627370496 + K < 4503599627370496 by omega)]
    have d1 : (L * 4503599627370496 + K) / 4503599627370496 - 1 = L := by omega
    have d2 : 4503599627370496 + (L * 4503599627370496 + K) % 4503599627370496 = K := by omega
    rw [d1, d2, ← hKe, Nat.mul_assoc, ← Nat.pow_add, Nat.add_comm]

/-- The rung of A / B. -/
def quo (A B : Nat) : Nat := near (A * 2 ^ 120 / B) (A * 2 ^ 120 % B != 0) (-120)

theorem quo_eq (A B p q : Nat) (e : Int) (hA : 0 < A) (hB : 0 < B) (hB2 : B ≤ 9223372036854775808) (hq : 0 < q) (hn : 9007199254740992 ≤ p / q)
    (h : p * B * 2 ^ (e + 120).toNat = A * 2 ^ 120 * q * 2 ^ (-120 - e).toNat) : near (p / q) (p % q != 0) e = quo A B := by
  unfold quo
  refine near_same p q (A * 2 ^ 120) B e (-120) hq hB hn ?_ ?_
  · rw [Nat.le_div_iff_mul_le hB]
    calc 9007199254740992 * B ≤ 9007199254740992 * 9223372036854775808 := Nat.mul_le_mul_left _ hB2
      _ ≤ 1 * 2 ^ 120 := by decide
      _ ≤ A * 2 ^ 120 := Nat.mul_le_mul_right _ hA
  · rw [show e - -120 = e + 120 by omega]
    exact h

/-- A whole quotient. -/
theorem quo_whole (K B : Nat) (hK : 0 < K) (hB : 0 < B) : quo (K * B) B = near K false 0 := by
  unfold quo
  have e1 : K * B * 2 ^ 120 = K * 2 ^ 120 * B := by rw [Nat.mul_assoc, Nat.mul_comm B, ← Nat.mul_assoc]
  rw [e1, Nat.mul_div_cancel _ hB, Nat.mul_mod_left]
  have := near_shift K 120 false 0 (by omega) (by simp)
  exact this

/-- The quotient is above nought. -/
theorem near_pos (N : Nat) (s : Bool) (e : Int) (hN : 9007199254740992 ≤ N) (he : -1000 ≤ e) : 0 < near N s e := by
  have hl : 53 ≤ N.log2 := by
    have h2 := log2_hi N
    by_cases c : 53 ≤ N.log2
    · exact c
    · have : 2 ^ (N.log2 + 1) ≤ 2 ^ 53 := Nat.pow_le_pow_right (by omega) (by omega)
      omega
  have hlast : -1000 < lastOf N e := by unfold lastOf; omega
  unfold near top
  have : 1 ≤ (lastOf N e + 1074).toNat := by omega
  generalize (lastOf N e + 1074).toNat = L at this
  omega

theorem quo_pos (A B : Nat) (hA : 0 < A) (hB : 0 < B) (hB2 : B ≤ 9223372036854775808) : 0 < quo A B := by
  unfold quo
  refine near_pos _ _ _ ?_ (by omega)
  rw [Nat.le_div_iff_mul_le hB]
  calc 9007199254740992 * B ≤ 9007199254740992 * 9223372036854775808 := Nat.mul_le_mul_left _ hB2
    _ ≤ 1 * 2 ^ 120 := by decide
    _ ≤ A * 2 ^ 120 := Nat.mul_le_mul_right _ hA

theorem near_le (m : Nat) (s : Bool) (e : Int) : near m s e ≤ 9218868437227405312 := by
  unfold near top
  exact Nat.min_le_right _ _

theorem word_parts (neg : Bool) (r : Nat) (h : r < 9223372036854775808) : double.word neg r / 9223372036854775808 % 2 = (if neg then 1 else 0) ∧ double.word neg r % 9223372036854775808 = r ∧ double.word neg r < 18446744073709551616 := by
  have e : double.word neg r = if neg then 9223372036854775808 + r else r := rfl
  rw [e]
  cases neg <;> simp <;> omega

theorem word_num (neg : Bool) (r : Nat) (h : r ≤ 9218868437227405312) : ¬ nan (double.word neg r) ∧ sr (double.word neg r) = sgn neg r := by
  obtain ⟨h1, h2, h3⟩ := word_parts neg r (by omega)
  refine ⟨by unfold nan; rw [h2]; omega, ?_⟩
  rw [sr_sgn, h1, h2]
  cases neg <;> rfl

/-- The model's quotient of two numbers that are whole and small. -/
theorem div_eq (A B : Nat) (s t : Bool) (hA : 0 < A) (hB : 0 < B) (hA2 : A < 9007199254740992) (hB2 : B < 9007199254740992) :
    double.div (double.word s (near A false 0)) (double.word t (near B false 0)) = some (double.word (s ^^ t) (quo A B)) := by
  have la : A.log2 ≤ 52 := by
    have h1 := log2_lo (m := A) (by omega)
    by_cases c : A.log2 ≤ 52
    · exact c
    · have : 2 ^ 53 ≤ 2 ^ A.log2 := Nat.pow_le_pow_right (by omega) (by omega)
      omega
  have lb : B.log2 ≤ 52 := by
    have h1 := log2_lo (m := B) (by omega)
    by_cases c : B.log2 ≤ 52
    · exact c
    · have : 2 ^ 53 ≤ 2 ^ B.log2 := Nat.pow_le_pow_right (by omega) (by omega)
      omega
  obtain ⟨a1, a2⟩ := near_exact A 0 (by omega) hA2 (by omega) (by omega)
  obtain ⟨b1, b2⟩ := near_exact B 0 (by omega) hB2 (by omega) (by omega)
  rw [show ((0 : Int) + 1074).toNat = 1074 by decide] at a2 b2
  obtain ⟨wa1, wa2, _⟩ := word_parts s (near A false 0) (by omega)
  obtain ⟨wb1, wb2, _⟩ := word_parts t (near B false 0) (by omega)
  obtain ⟨m, a, em, vm⟩ := read_num (double.word s (near A false 0)) (by rw [wa2]; exact a1)
  obtain ⟨n, b, en, vn⟩ := read_num (double.word t (near B false 0)) (by rw [wb2]; exact b1)
  rw [wa1] at em
  rw [wb1] at en
  rw [wa2, a2] at vm
  rw [wb2, b2] at vn
  have es : ((if s then 1 else 0 : Nat) == 1) = s := by cases s <;> rfl
  have et : ((if t then 1 else 0 : Nat) == 1) = t := by cases t <;> rfl
  rw [es] at em
  rw [et] at en
  have hm : m ≠ 0 := by
    intro h; rw [h, Nat.zero_mul] at vm
    have := Nat.mul_pos hA (Nat.two_pow_pos 1074)
    omega
  have hn : n ≠ 0 := by
    intro h; rw [h, Nat.zero_mul] at vn
    have := Nat.mul_pos hB (Nat.two_pow_pos 1074)
    omega
  unfold Format.div
  rw [em, en]
  obtain ⟨k, hk⟩ : ∃ k, 54 + n.log2 - m.log2 = k := ⟨_, rfl⟩
  have hq : Datum.quotient (double.fractionBits + 2) (.number s m (-1074 + (a : Int))) (.number t n (-1074 + (b : Int))) =
      some (.number (s ^^ t) (2 * (m <<< k / n) + (m <<< k % n != 0).toNat) (-1074 + (a : Int) - (-1074 + (b : Int)) - (k : Int) - 1)) := by
    show (if n = 0 then _ else _) = _
    rw [if_neg hn]
    show some (Datum.number (s ^^ t) (2 * (m <<< (54 + n.log2 - m.log2) / n) + (m <<< (54 + n.log2 - m.log2) % n != 0).toNat) (-1074 + (a : Int) - (-1074 + (b : Int)) - ((54 + n.log2 - m.log2 : Nat) : Int) - 1)) = _
    rw [hk]
  rw [hq]
  show some (double.nearest (s ^^ t) _ _) = _
  rw [Nat.shiftLeft_eq]
  have hN : 9007199254740992 ≤ m * 2 ^ k / n := by
    rw [Nat.le_div_iff_mul_le (by omega)]
    have h1 := log2_lo hm
    have h2 := log2_hi n
    have h3 : 2 ^ m.log2 * 2 ^ k ≤ m * 2 ^ k := Nat.mul_le_mul_right _ h1
    have h4 : 2 ^ (54 + n.log2) ≤ 2 ^ m.log2 * 2 ^ k := by rw [← Nat.pow_add]; exact Nat.pow_le_pow_right (by omega) (by omega)
    have h5 : 9007199254740992 * n ≤ 2 ^ 53 * 2 ^ (n.log2 + 1) := Nat.mul_le_mul (by decide) (by omega)
    have h6 : 2 ^ 53 * 2 ^ (n.log2 + 1) = 2 ^ (54 + n.log2) := by rw [← Nat.pow_add]; congr 1; omega
    omega
  have hlog : 53 ≤ (m * 2 ^ k / n).log2 := by
    have h2 := log2_hi (m * 2 ^ k / n)
    by_cases c : 53 ≤ (m * 2 ^ k / n).log2
    · exact c
    · have : 2 ^ ((m * 2 ^ k / n).log2 + 1) ≤ 2 ^ 53 := Nat.pow_le_pow_right (by omega) (by omega)
      omega
  have hplace : -1074 + (a : Int) - (-1074 + (b : Int)) - (k : Int) = (a : Int) - b - k := by omega
  rw [hplace, nearest_eq _ _ _ (by omega), near_sticky _ _ _ (by omega) (by unfold lastOf; omega)]
  refine congrArg some (congrArg _ ?_)
  refine quo_eq A B (m * 2 ^ k) n _ hA hB (by omega) (by omega) hN ?_
  -- m 2^k B 2^x = A 2^120 n 2^y
  obtain ⟨x, hx⟩ : ∃ x, ((a : Int) - b - k + 120).toNat = x := ⟨_, rfl⟩
  obtain ⟨y, hy⟩ : ∃ y, (-120 - ((a : Int) - b - k)).toNat = y := ⟨_, rfl⟩
  rw [hx, hy]
  have hxy : k + x + b = 120 + y + a := by omega
  have key : ∀ z : Nat, m * 2 ^ a = A * 2 ^ z → n * 2 ^ b = B * 2 ^ z → m * 2 ^ k * B * 2 ^ x = A * 2 ^ 120 * n * 2 ^ y := fun z h1 h2 => by
    refine cross m n A B (2 ^ z) (2 ^ 120) (2 ^ a) (2 ^ b) (2 ^ k) (2 ^ x) (2 ^ y) h1 h2 ?_ (Nat.two_pow_pos _) (Nat.two_pow_pos _) (Nat.two_pow_pos _)
    rw [← Nat.pow_add, ← Nat.pow_add, ← Nat.pow_add, ← Nat.pow_add, hxy]
  exact key 1074 vm vn
end Go.Proofs.YtnjnmgpjohfjiabDoor.Fl
