/- What NewRatio answers, whole. -/
import Derived.Test.YtomopfjaebcpeaaRatio
namespace Go.Proofs.Ytomopfjaebcpeaa
open Go.RowKit

def RatioEnds (n d : Int) (e : Ending) : Prop :=
  (e = .returned (.tuple #[.agg #[.int .i64 0, .int .i64 0], .int .i64 10]) ∧ ((n % 2 = 1 ∧ d = -9223372036854775808) ∨ (n = -9223372036854775808 ∧ d < 0 ∧ d % 2 = 1))) ∨
  ∃ p q, e = .returned (.tuple #[.agg #[.int .i64 p, .int .i64 q], .int .i64 0]) ∧ Lowest n d p q

set_option maxHeartbeats 1000000 in
theorem ratio_zero (n : Int) (w : World) : Calls Try.prog 67 #[.int .i64 n, .int .i64 0] w fun e w' => e = .returned (.tuple #[.agg #[.int .i64 0, .int .i64 0], .int .i64 11]) ∧ Kept w w' := by
  go_enter Try.func67, Try.ntmps67
  go_wp2
  go_returns
  exact ⟨rfl, (Kept.refl _).alloc _⟩

theorem signedOf_neg {m : Nat} (h : m ≤ 9223372036854775808) : signedOf m true = (-(m : Int), 0) := by unfold signedOf; rw [if_pos ⟨rfl, h⟩]
theorem signedOf_pos {m : Nat} (h : m ≤ 9223372036854775807) : signedOf m false = ((m : Int), 0) := by unfold signedOf; rw [if_neg (by simp), if_neg (by omega)]
theorem signedOf_over {m : Nat} (h : 9223372036854775807 < m) : signedOf m false = (0, 10) := by unfold signedOf; rw [if_neg (by simp), if_pos h]

theorem odd_gcd {a : Nat} (h : Nat.gcd a 9223372036854775808 = 1) : a % 2 = 1 := by
  rcases (by omega : a % 2 = 0 ∨ a % 2 = 1) with h0 | h0
  · have h3 := Nat.dvd_gcd (Nat.dvd_of_mod_eq_zero h0) (by decide : 2 ∣ 9223372036854775808)
    rw [h] at h3
    omega
  · exact h0

theorem one_of_mul {a g x : Nat} (h : x = a * g) (hx : x ≤ 9223372036854775808) (ha : a = 9223372036854775808) (hg : 0 < g) : g = 1 ∧ x = 9223372036854775808 := by
  subst ha
  have : 9223372036854775808 * 1 ≤ 9223372036854775808 * g := Nat.mul_le_mul_left _ hg
  omega

set_option maxRecDepth 100000 in
set_option maxHeartbeats 2000000 in
theorem ratio_calls (n d : Int) (w : World) (n1 : -9223372036854775808 ≤ n) (n2 : n ≤ 9223372036854775807) (d1 : -9223372036854775808 ≤ d) (d2 : d ≤ 9223372036854775807) (hd : d ≠ 0) :
    Calls Try.prog 67 #[.int .i64 n, .int .i64 d] w fun e w' => RatioEnds n d e ∧ Kept w w' := by
  obtain ⟨g, a, b, eg, hg, en, ed, qa, qb, hb, hab⟩ := lowest_facts n d hd
  have ha1 : a ≤ 9223372036854775808 := by rw [← qa]; exact Nat.le_trans (Nat.div_le_self _ _) (by omega)
  have hb1 : b ≤ 9223372036854775808 := by rw [← qb]; exact Nat.le_trans (Nat.div_le_self _ _) (by omega)
  have e1 : ((n.natAbs : Int) / (g : Int)) = (a : Int) := by rw [← qa]; simp
  have e2 : ((d.natAbs : Int) / (g : Int)) = (b : Int) := by rw [← qb]; simp
  have hd0 : (d == 0) = false := by simp [hd]
  have hgp : ¬ ((g : Int) = 0) := by omega
  have hgp1 : (1 : Int) ≤ (g : Int) := by omega
  have HA := hid_of (And.intro en (And.intro ed (And.intro hb hab)))
  have HG := hid_of (And.intro eg hd)
  clear qa qb en ed hab eg hd
  go_enter Try.func67, Try.ntmps67
  go_wp2_with fail
  refine (gcd_calls n d _ n1 n2 d1 d2).mono ?_
  rintro e w' ⟨rfl, k1, rfl⟩
  rw [← HG.out.1]
  go_wp2_with fail
  refine (mag_calls n _ n1 n2).mono ?_
  rintro e w' ⟨rfl, rfl⟩
  go_wp2_with fail
  obtain ⟨neg, hneg⟩ : ∃ neg, neg = (!(decide (n < 0) == decide (d < 0))) := ⟨_, rfl⟩
  rw [← hneg]
  have HN := hid_of hneg
  clear hneg
  have hcase : (∃ p, signedOf a neg = (p, 0) ∧ (p = if (decide (n < 0) != decide (d < 0)) then -(a : Int) else (a : Int)) ∧ -9223372036854775808 ≤ p ∧ p ≤ 9223372036854775807) ∨ (signedOf a neg = (0, 10) ∧ n = -9223372036854775808 ∧ d < 0 ∧ d % 2 = 1) := by
    have hn' : (decide (n < 0) != decide (d < 0)) = neg := HN.out.symm
    rw [hn']
    cases neg
    · by_cases h : a ≤ 9223372036854775807
      · exact .inl ⟨(a : Int), signedOf_pos h, by simp, by omega, by omega⟩
      · obtain ⟨en, ed, hb', hab⟩ := HA.out
        obtain ⟨f1, f2⟩ := one_of_mul en (by omega) (by omega) hg
        rw [f1, Nat.mul_one] at ed
        have f3 : n = -9223372036854775808 := by omega
        have f4 : d < 0 := by
          have := hn'
          rw [f3] at this
          simpa using this
        have f5 : b % 2 = 1 := odd_gcd (by rw [Nat.gcd_comm, ← (by omega : a = 9223372036854775808)]; exact hab)
        exact .inr ⟨signedOf_over (by omega), f3, f4, by omega⟩
    · exact .inl ⟨-(a : Int), signedOf_neg ha1, by simp, by omega, by omega⟩
  refine (signed_calls a neg _ (by omega)).mono ?_
  rintro e w' ⟨rfl, rfl⟩
  rcases hcase with ⟨p, hp1, hp2, hp3, hp4⟩ | ⟨hp1, hp2⟩
  · rw [hp1]
    have HP := hid_of hp2
    clear hp1 hp2
    go_wp2_with fail
    refine (mag_calls d _ d1 d2).mono ?_
    rintro e w' ⟨rfl, rfl⟩
    go_wp2_with fail
    refine (signed_calls b false _ (by omega)).mono ?_
    rintro e w' ⟨rfl, rfl⟩
    by_cases hbb : b ≤ 9223372036854775807
    · rw [signedOf_pos hbb]
      go_wp2
      go_returns
      refine ⟨.inr ⟨p, b, rfl, ?_⟩, ((((Kept.refl _).alloc _).drewN _).setCell (Nat.le_refl _) _).setCell (Nat.le_refl _) _⟩
      obtain ⟨en, ed, hb', hab⟩ := HA.out
      exact lowest_of n d g a b en ed hb' hab p HP.out hp3 hp4 (by omega)
    · rw [signedOf_over (by omega)]
      go_wp2
      go_returns
      refine ⟨.inl ⟨rfl, .inl ?_⟩, ((((Kept.refl _).alloc _).drewN _).setCell (Nat.le_refl _) _).setCell (Nat.le_refl _) _⟩
      obtain ⟨en, ed, hb', hab⟩ := HA.out
      obtain ⟨f1, f2⟩ := one_of_mul ed (by omega) (by omega) hg
      rw [f1, Nat.mul_one] at en
      have f5 : a % 2 = 1 := odd_gcd (by rw [← (by omega : b = 9223372036854775808)]; exact hab)
      omega
  · rw [hp1]
    have HP := hid_of hp2
    clear hp1 hp2
    go_wp2
    go_returns
    exact ⟨.inl ⟨rfl, .inr HP.out⟩, ((((Kept.refl _).alloc _).drewN _).setCell (Nat.le_refl _) _).setCell (Nat.le_refl _) _⟩
end Go.Proofs.Ytomopfjaebcpeaa
