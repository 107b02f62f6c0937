/- ScaleOne: the mathematics. Whole numbers as float64, and the same moved by a power of two: the same odd part, the exponent moved. -/
import Derived.Test.YtnjnmgpjohfjiabDoorExactA
namespace Go.Proofs.YtnjnmgpjohfjiabDoor
open Go.RowKit Ieee

theorem pow_up (L : Nat) (hl : L ≤ 52) : 2 ^ L * 2 ^ (52 - L) = 4503599627370496 := by
  rw [← Nat.pow_add, show L + (52 - L) = 52 by omega]
theorem log_le (A : Nat) (h : A < 9007199254740992) (h1 : 2 ^ A.log2 ≤ A) : A.log2 ≤ 52 := by
  by_cases c : A.log2 ≤ 52
  · exact c
  · have : 2 ^ 53 ≤ 2 ^ A.log2 := Nat.pow_le_pow_right (by omega) (by omega)
    omega
theorem near_min (A L : Nat) (hl : L ≤ 52) (h : A.log2 = L) : Fl.near A false 0 = min ((L + 1022) * 4503599627370496 + A * 2 ^ (52 - L)) 9218868437227405312 := by
  unfold Fl.near Fl.top
  have hlast : Fl.lastOf A 0 = (L : Int) - 52 := by unfold Fl.lastOf; rw [h]; omega
  have e3 : (0 - ((L : Int) - 52)).toNat = 52 - L := by omega
  have e4 : ((L : Int) - 52 + 1074).toNat = L + 1022 := by omega
  rw [hlast, if_pos (by omega), e3, e4]
theorem min_fits (L B : Nat) (hl : L ≤ 52) (hi : B < 9007199254740992) : min ((L + 1022) * 4503599627370496 + B) 9218868437227405312 = (L + 1022) * 4503599627370496 + B := by omega
theorem mid (A P Q R : Nat) (h1 : P ≤ A) (h2 : A < P + P) (h3 : P * Q = R) (hq : 0 < Q) : R ≤ A * Q ∧ A * Q < R + R := by
  subst h3
  refine ⟨Nat.mul_le_mul_right _ h1, ?_⟩
  rw [← Nat.add_mul]
  exact Nat.mul_lt_mul_of_pos_right h2 hq

theorem near_int (A : Nat) (h0 : A ≠ 0) (h : A < 9007199254740992) :
    A.log2 ≤ 52 ∧ Fl.near A false 0 = (A.log2 + 1022) * 4503599627370496 + A * 2 ^ (52 - A.log2) ∧ 4503599627370496 ≤ A * 2 ^ (52 - A.log2) ∧ A * 2 ^ (52 - A.log2) < 9007199254740992 := by
  have h1 := Fl.log2_lo h0
  have h2 := Fl.log2_hi A
  have hl := log_le A h h1
  have hn := near_min A A.log2 hl rfl
  obtain ⟨lo, hi⟩ := mid A (2 ^ A.log2) (2 ^ (52 - A.log2)) 4503599627370496 h1 (by rw [Nat.pow_succ] at h2; omega) (pow_up A.log2 hl) (Nat.two_pow_pos _)
  rw [min_fits A.log2 (A * 2 ^ (52 - A.log2)) hl hi] at hn
  exact ⟨hl, hn, lo, hi⟩

theorem read_norm (x : Nat) (h1 : ¬ x % 9223372036854775808 < 4503599627370496) (h2 : x % 9223372036854775808 < 9218868437227405312) :
    double.read x = .number (x / 9223372036854775808 % 2 == 1) (4503599627370496 + x % 9223372036854775808 % 4503599627370496) (-1074 + ((x % 9223372036854775808 / 4503599627370496 - 1 : Nat) : Int)) := by
  show (if x % 9223372036854775808 < 4503599627370496 then _ else if x % 9223372036854775808 < 9218868437227405312 then _ else if x % 9223372036854775808 = 9218868437227405312 then _ else _) = _
  rw [if_neg h1, if_pos h2]
  rfl

theorem one_read : double.read 4607182418800017408 = .number false 4503599627370496 (-52) := by
  have := read_norm 4607182418800017408 (by omega) (by omega)
  simpa using this

theorem mul_one (s : Bool) (r : Nat) (h1 : 4503599627370496 ≤ r) (h2 : r < 9218868437227405312) :
    double.mul 4607182418800017408 (double.word s r) = some (double.word s r) := by
  obtain ⟨w1, w2, _⟩ := Fl.word_parts s r (by omega)
  have hr : double.read (double.word s r) = .number s (4503599627370496 + r % 4503599627370496) (-1074 + ((r / 4503599627370496 - 1 : Nat) : Int)) := by
    have es : ((if s then 1 else 0 : Nat) == 1) = s := by cases s <;> rfl
    have := read_norm (double.word s r) (by omega) (by omega)
    rw [w1, w2, es] at this
    exact this
  unfold Format.mul
  rw [one_read, hr]
  show some (double.nearest (false ^^ s) (4503599627370496 * (4503599627370496 + r % 4503599627370496)) (-52 + (-1074 + ((r / 4503599627370496 - 1 : Nat) : Int)))) = _
  have hM0 : 4503599627370496 + r % 4503599627370496 ≠ 0 := by omega
  rw [Fl.nearest_eq _ _ _ (by omega), Bool.false_xor]
  refine congrArg some (congrArg _ ?_)
  have hl : (4503599627370496 + r % 4503599627370496).log2 = 52 := Fl.log2_unique _ 52 (by omega) (by omega)
  obtain ⟨_, hv⟩ := Fl.near_exact (4503599627370496 + r % 4503599627370496) (-1074 + ((r / 4503599627370496 - 1 : Nat) : Int)) hM0 (by omega) (by omega) (by rw [hl]; omega)
  have hsh := Fl.near_shift (4503599627370496 + r % 4503599627370496) 52 false (-1074 + ((r / 4503599627370496 - 1 : Nat) : Int)) hM0 (fun h => by cases h)
  have ea : 4503599627370496 * (4503599627370496 + r % 4503599627370496) = (4503599627370496 + r % 4503599627370496) * 2 ^ 52 := by rw [Nat.mul_comm]
  have eb : -52 + (-1074 + ((r / 4503599627370496 - 1 : Nat) : Int)) = -1074 + ((r / 4503599627370496 - 1 : Nat) : Int) - ((52 : Nat) : Int) := by omega
  rw [ea, eb, hsh]
  refine V_inj ?_
  rw [hv]
  unfold Fl.V
  rw [if_neg (by omega)]
  have ec : (-1074 + ((r / 4503599627370496 - 1 : Nat) : Int) + 1074).toNat = r / 4503599627370496 - 1 := by omega
  rw [ec]

/-- The rung of the whole number z moved by 2^up. -/
def orung (z up : Int) : Nat := ((Fl.near z.natAbs false 0 : Int) + up * 4503599627370496).toNat
/-- The word of z times 2^up. -/
def oword (z up : Int) : Nat := if z = 0 then 0 else double.word (decide (z < 0)) (orung z up)

theorem orung_zero (z : Int) : orung z 0 = Fl.near z.natAbs false 0 := by
  unfold orung
  generalize Fl.near z.natAbs false 0 = N
  omega

theorem int_oword (z : Int) : floatOfInt .f64 z = oword z 0 := by
  unfold oword
  by_cases h : z = 0
  · subst h; rw [if_pos rfl]; rfl
  · rw [if_neg h, orung_zero]
    exact Fl.nearest_eq _ _ _ (by omega)

/-- The rung's field and digits. -/
theorem orung_parts (z : Int) (hz : z ≠ 0) (z1 : -2147483648 ≤ z) (z2 : z ≤ 2147483647) :
    ∃ L B : Nat, L ≤ 31 ∧ B < 4503599627370496 ∧ z.natAbs * 2 ^ (52 - L) = 4503599627370496 + B ∧ ∀ up : Int, -900 ≤ up → up ≤ 900 → (orung z up : Int) = (L + 1023 + up) * 4503599627370496 + B := by
  obtain ⟨hl, hn, lo, hi⟩ := near_int z.natAbs (by omega) (by omega)
  have hL : z.natAbs.log2 ≤ 31 := by
    have h1 := Fl.log2_lo (m := z.natAbs) (by omega)
    by_cases c : z.natAbs.log2 ≤ 31
    · exact c
    · have : 2 ^ 32 ≤ 2 ^ z.natAbs.log2 := Nat.pow_le_pow_right (by omega) (by omega)
      omega
  refine ⟨z.natAbs.log2, z.natAbs * 2 ^ (52 - z.natAbs.log2) - 4503599627370496, hL, by omega, by omega, fun up u1 u2 => ?_⟩
  unfold orung
  rw [hn]
  generalize z.natAbs * 2 ^ (52 - z.natAbs.log2) = B at lo hi
  generalize z.natAbs.log2 = L at hL hl
  omega

theorem digs_mod (x : Nat) : digs (x % 9223372036854775808) = digs x ∧ fld (x % 9223372036854775808) = fld x := by
  unfold digs fld
  have e1 : x % 9223372036854775808 / 4503599627370496 % 2048 = x / 4503599627370496 % 2048 := by omega
  have e2 : x % 9223372036854775808 % 4503599627370496 = x % 4503599627370496 := by omega
  rw [e1, e2]
  exact ⟨rfl, rfl⟩

theorem digs_norm (r F B : Nat) (h : r = F * 4503599627370496 + B) (hF : 0 < F) (hF2 : F < 2047) (hB : B < 4503599627370496) : digs r = 4503599627370496 + B ∧ fld r = F - 1 ∧ r < 9218868437227405312 := by
  have e1 : r / 4503599627370496 % 2048 = F := by omega
  have e2 : r % 4503599627370496 = B := by omega
  unfold digs fld
  rw [e1, e2, if_pos hF]
  exact ⟨rfl, rfl, by omega⟩

/-- What the word of z times 2^up is made of. -/
theorem oword_parts (z : Int) (hz : z ≠ 0) (z1 : -2147483648 ≤ z) (z2 : z ≤ 2147483647) :
    ∃ (o p : Nat), o % 2 = 1 ∧ o * 2 ^ p = z.natAbs ∧ ∀ up : Int, -900 ≤ up → up ≤ 900 → podd (oword z up) = o ∧ pexp (oword z up) = p + up ∧ fcls (oword z up) = 0 ∧ fneg (oword z up) = decide (z < 0) ∧ oword z up < 18446744073709551616 := by
  obtain ⟨L, B, hL, hB, hA, hr⟩ := orung_parts z hz z1 z2
  obtain ⟨c1, c2, c3⟩ := ctz_facts (4503599627370496 + B) (by omega) (by omega)
  generalize ht : Lib.ctz 64 (4503599627370496 + B) = t at c1 c2 c3
  generalize ho : (4503599627370496 + B) / 2 ^ t = o at c1 c2
  have hge : 52 - L ≤ t := by
    by_cases c : 52 - L ≤ t
    · exact c
    · exfalso
      have e1 : z.natAbs * 2 ^ (52 - L - t) * 2 ^ t = o * 2 ^ t := by rw [Nat.mul_assoc, ← Nat.pow_add, show 52 - L - t + t = 52 - L by omega, hA]; exact c2
      have e2 := Nat.eq_of_mul_eq_mul_right (Nat.two_pow_pos t) e1
      have e3 : 2 ^ (52 - L - t) = 2 * 2 ^ (52 - L - t - 1) := by rw [← Nat.pow_succ']; congr 1; omega
      rw [e3, ← Nat.mul_assoc, Nat.mul_comm z.natAbs 2, Nat.mul_assoc] at e2
      omega
  refine ⟨o, t - (52 - L), c1, ?_, fun up u1 u2 => ?_⟩
  · have e1 : o * 2 ^ (t - (52 - L)) * 2 ^ (52 - L) = z.natAbs * 2 ^ (52 - L) := by rw [Nat.mul_assoc, ← Nat.pow_add, show t - (52 - L) + (52 - L) = t by omega, hA]; exact c2.symm
    exact Nat.eq_of_mul_eq_mul_right (Nat.two_pow_pos _) e1
  · have hr' := hr up u1 u2
    obtain ⟨F, hF⟩ : ∃ F : Nat, (F : Int) = L + 1023 + up := ⟨(L + 1023 + up).toNat, by omega⟩
    rw [← hF] at hr'
    have hr2 : orung z up = F * 4503599627370496 + B := by omega
    obtain ⟨d1, d2, d3⟩ := digs_norm _ F B hr2 (by omega) (by omega) hB
    have hw : oword z up = double.word (decide (z < 0)) (orung z up) := by unfold oword; rw [if_neg hz]
    rw [hw]
    obtain ⟨p1, p2, p3⟩ := Fl.word_parts (decide (z < 0)) (orung z up) (by omega)
    generalize double.word (decide (z < 0)) (orung z up) = W at p1 p2 p3
    have m := digs_mod W
    rw [p2, d1, d2] at m
    refine ⟨?_, ?_, ?_, ?_, p3⟩
    · unfold podd; rw [← m.1, if_neg (by omega), ht, ho]
    · unfold pexp; rw [← m.1, ← m.2, if_neg (by omega), ht]; omega
    · unfold fcls; rw [if_neg (by unfold Fl.nan; omega), if_neg (by omega)]
    · unfold fneg
      by_cases c : z < 0
      · rw [decide_eq_true c] at p1 ⊢
        rw [if_pos rfl] at p1
        exact decide_eq_true (by omega)
      · rw [decide_eq_false c] at p1 ⊢
        rw [if_neg (by simp)] at p1
        exact decide_eq_false (by omega)
end Go.Proofs.YtnjnmgpjohfjiabDoor
