/- What NewRatio answers. -/
import Derived.Test.YtomopfjaebcpeaaBase
import Derived.Test.YtomopfjaebcpeaaGcdB
namespace Go.Proofs.Ytomopfjaebcpeaa
open Go.RowKit

/-- A magnitude with a sign, in 64 bits. -/
def signedOf (m : Nat) (neg : Bool) : Int × Int := if neg = true ∧ m ≤ 9223372036854775808 then (-(m : Int), 0) else if 9223372036854775807 < m then (0, 10) else ((m : Int), 0)

set_option maxHeartbeats 1000000 in
theorem signed_calls (m : Nat) (neg : Bool) (w : World) (hm : m < 18446744073709551616) :
    Calls Try.prog 94 #[.int .u64 (m : Int), .bool neg] w fun e w' => e = .returned (.tuple #[.int .i64 (signedOf m neg).1, .int .i64 (signedOf m neg).2]) ∧ w = w' := by
  have hlow : neg = false → ¬ (9223372036854775807 < m) → signedOf m neg = ((m : Int), 0) := by intro h1 h2; unfold signedOf; rw [if_neg (by simp [h1]), if_neg h2]
  have hhigh : neg = false → 9223372036854775807 < m → signedOf m neg = (0, 10) := by intro h1 h2; unfold signedOf; rw [if_neg (by simp [h1]), if_pos h2]
  have hneg : neg = true → m ≤ 9223372036854775808 → signedOf m neg = (-(m : Int), 0) := by intro h1 h2; unfold signedOf; rw [if_pos ⟨h1, h2⟩]
  have hover : neg = true → 9223372036854775808 < m → signedOf m neg = (0, 10) := by intro h1 h2; unfold signedOf; rw [if_neg (by omega), if_pos (by omega)]
  cases neg
  · by_cases h : (9223372036854775807 : Int) < (m : Int)
    · rw [hhigh rfl (by omega)]
      clear hlow hhigh hneg hover
      go_enter Try.func94, Try.ntmps94
      go_wp2
      go_ret2
      exact ⟨rfl, rfl⟩
    · rw [hlow rfl (by omega)]
      clear hlow hhigh hneg hover
      go_enter Try.func94, Try.ntmps94
      go_wp2
      go_ret2
      exact ⟨rfl, rfl⟩
  · by_cases h : (m : Int) ≤ (9223372036854775808 : Int)
    · rw [hneg rfl (by omega)]
      clear hlow hhigh hneg hover
      have e1 : wrap64 (-wrap64 (m : Int)) = -(m : Int) := by unfold wrap64; omega
      have HE := hid_of e1
      clear e1
      go_enter Try.func94, Try.ntmps94
      go_wp2
      go_ret2
      refine ⟨?_, rfl⟩
      show Ending.returned (.tuple #[.int .i64 (wrap64 (-wrap64 (m : Int))), .int .i64 0]) = _
      rw [HE.out]
    · rw [hover rfl (by omega)]
      clear hlow hhigh hneg hover
      go_enter Try.func94, Try.ntmps94
      go_wp2
      go_ret2
      exact ⟨rfl, rfl⟩

/-- What is asked of a fraction in lowest terms. -/
def Lowest (n d p q : Int) : Prop := 0 < q ∧ q ≤ 9223372036854775807 ∧ -9223372036854775808 ≤ p ∧ p ≤ 9223372036854775807 ∧ p * d = n * q ∧ Int.gcd p q = 1

theorem odd_of_gcd {n : Int} (h : Int.gcd n (-9223372036854775808) = 1) : n % 2 = 1 := by
  rcases (by omega : n % 2 = 0 ∨ n % 2 = 1) with h0 | h0
  · have h1 : (2 : Int) ∣ n := Int.dvd_of_emod_eq_zero h0
    have h2 : (2 : Int) ∣ (-9223372036854775808) := by decide
    have h3 := Int.dvd_coe_gcd h1 h2
    rw [h] at h3
    omega
  · exact h0

/-- The magnitudes divided by the greatest common divisor. -/
theorem lowest_facts (n d : Int) (hd : d ≠ 0) : ∃ g a b : Nat, g = Int.gcd n d ∧ 0 < g ∧ n.natAbs = a * g ∧ d.natAbs = b * g ∧ n.natAbs / g = a ∧ d.natAbs / g = b ∧ 0 < b ∧ Nat.gcd a b = 1 := by
  have hg : 0 < Int.gcd n d := Nat.pos_of_ne_zero (fun h => hd (Int.gcd_eq_zero_iff.1 h).2)
  have h1 : Int.gcd n d ∣ n.natAbs := Nat.gcd_dvd_left _ _
  have h2 : Int.gcd n d ∣ d.natAbs := Nat.gcd_dvd_right _ _
  refine ⟨Int.gcd n d, n.natAbs / Int.gcd n d, d.natAbs / Int.gcd n d, rfl, hg, (Nat.div_mul_cancel h1).symm, (Nat.div_mul_cancel h2).symm, rfl, rfl, ?_, ?_⟩
  · exact Nat.div_pos (Nat.le_of_dvd (by omega) h2) hg
  · rw [Nat.gcd_div h1 h2]
    exact Nat.div_self hg

theorem lowest_of (n d : Int) (g a b : Nat) (hn : n.natAbs = a * g) (hd : d.natAbs = b * g) (hb : 0 < b) (hab : Nat.gcd a b = 1) (p : Int) (hp : p = if (decide (n < 0) != decide (d < 0)) then -(a : Int) else (a : Int)) (p1 : -9223372036854775808 ≤ p) (p2 : p ≤ 9223372036854775807) (hq : (b : Int) ≤ 9223372036854775807) :
    Lowest n d p b := by
  refine ⟨by omega, hq, p1, p2, ?_, ?_⟩
  · have e1 : (n.natAbs : Int) = (a : Int) * (g : Int) := by rw [hn]; simp
    have e2 : (d.natAbs : Int) = (b : Int) * (g : Int) := by rw [hd]; simp
    have key : (a : Int) * ((b : Int) * (g : Int)) = (a : Int) * (g : Int) * (b : Int) := by simp only [Int.mul_assoc, Int.mul_comm (g : Int) (b : Int)]
    by_cases hn0 : n < 0 <;> by_cases hd0' : d < 0
    · have hb' : (decide (n < 0) != decide (d < 0)) = false := by simp [hn0, hd0']
      rw [hb'] at hp
      have hp' : p = (a : Int) := by simpa using hp
      have f1 : n = -((a : Int) * (g : Int)) := by omega
      have f2 : d = -((b : Int) * (g : Int)) := by omega
      rw [f1, f2, hp', Int.mul_neg, Int.neg_mul, key]
    · have hb' : (decide (n < 0) != decide (d < 0)) = true := by simp [hn0, hd0']
      rw [hb'] at hp
      have hp' : p = -(a : Int) := by simpa using hp
      have f1 : n = -((a : Int) * (g : Int)) := by omega
      have f2 : d = (b : Int) * (g : Int) := by omega
      rw [f1, f2, hp', Int.neg_mul, Int.neg_mul, key]
    · have hb' : (decide (n < 0) != decide (d < 0)) = true := by simp [hn0, hd0']
      rw [hb'] at hp
      have hp' : p = -(a : Int) := by simpa using hp
      have f1 : n = (a : Int) * (g : Int) := by omega
      have f2 : d = -((b : Int) * (g : Int)) := by omega
      rw [f1, f2, hp', Int.mul_neg, Int.neg_mul, Int.neg_neg, key]
    · have hb' : (decide (n < 0) != decide (d < 0)) = false := by simp [hn0, hd0']
      rw [hb'] at hp
      have hp' : p = (a : Int) := by simpa using hp
      have f1 : n = (a : Int) * (g : Int) := by omega
      have f2 : d = (b : Int) * (g : Int) := by omega
      rw [f1, f2, hp', key]
  · have : p.natAbs = a := by rw [hp]; split <;> simp
    unfold Int.gcd
    rw [this, Int.natAbs_natCast]
    exact hab
end Go.Proofs.Ytomopfjaebcpeaa
