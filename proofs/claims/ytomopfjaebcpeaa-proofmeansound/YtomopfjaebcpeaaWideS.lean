/- Numbers of 128 bits: what the program's halves are. -/
import Derived.Test.YtomopfjaebcpeaaBase2
import Derived.Test.YtomopfjaebcpeaaOrd
import Derived.Lib.Mul64
import Derived.Laws.MathBits
namespace Go.Proofs.Ytomopfjaebcpeaa
open Go.RowKit

/-- The halves of a number of 128 bits. -/
def IsWide (hi lo z : Int) : Prop := -9223372036854775808 ≤ hi ∧ hi ≤ 9223372036854775807 ∧ 0 ≤ lo ∧ lo ≤ 18446744073709551615 ∧ z = hi * 18446744073709551616 + lo

theorem IsWide.unique {a b c d z : Int} (h : IsWide a b z) (k : IsWide c d z) : a = c ∧ b = d := by
  obtain ⟨h1, h2, h3, h4, h5⟩ := h
  obtain ⟨k1, k2, k3, k4, k5⟩ := k
  omega

theorem widen_facts (a : Int) (h1 : -9223372036854775808 ≤ a) (h2 : a ≤ 9223372036854775807) : IsWide (a / 9223372036854775808) (IntKind.u64.wrap a) a := by
  rw [IntKind.wrap_u64]
  refine ⟨by omega, by omega, by omega, by omega, by omega⟩

theorem half32 (z : Nat) (h : z < 18446744073709551616) : bits .and .u64 (z : Int) 4294967295 = ((z % 4294967296 : Nat) : Int) := by
  have := u64_and_nat z 4294967295 h (by omega)
  rw [show ((4294967295 : Nat) : Int) = 4294967295 from rfl] at this
  rw [this, Nat.and_two_pow_sub_one_eq_mod z 32]
theorem div32 (z : Nat) : (z : Int) / 4294967296 = ((z / 4294967296 : Nat) : Int) := by omega
theorem nmul (a b : Nat) : (a : Int) * (b : Int) = ((a * b : Nat) : Int) := (Int.natCast_mul a b).symm
theorem nadd (a b : Nat) : (a : Int) + (b : Int) = ((a + b : Nat) : Int) := (Int.natCast_add a b).symm
theorem nwrap (a : Nat) (h : a < 18446744073709551616) : IntKind.u64.wrap (a : Int) = (a : Int) := by rw [IntKind.wrap_u64]; omega
theorem nwrapm (a : Nat) : IntKind.u64.wrap (a : Int) = ((a % 18446744073709551616 : Nat) : Int) := by rw [IntKind.wrap_u64]; omega

set_option maxHeartbeats 1000000 in
theorem mul64_calls (x y : Nat) (hx : x < 18446744073709551616) (hy : y < 18446744073709551616) (w : World) :
    Calls Try.prog 97 #[.int .u64 (x : Int), .int .u64 (y : Int)] w fun e w' => e = .returned (.tuple #[.int .u64 ((x * y / 18446744073709551616 : Nat) : Int), .int .u64 ((x * y % 18446744073709551616 : Nat) : Int)]) ∧ w = w' := by
  obtain ⟨bd, bt, bw, hhi⟩ := Lib.mul64_hi x y hx hy
  have ba := Lib.half_mul_le (a := x / 4294967296) (b := y / 4294967296) (by omega) (by omega)
  have bb := Lib.half_mul_le (a := x / 4294967296) (b := y % 4294967296) (by omega) (by omega)
  have bc := Lib.half_mul_le (a := x % 4294967296) (b := y / 4294967296) (by omega) (by omega)
  have q1 : x / 4294967296 * (y / 4294967296) < 18446744073709551616 := by omega
  have q2 : x / 4294967296 * (y % 4294967296) < 18446744073709551616 := by omega
  have q3 : x % 4294967296 * (y / 4294967296) < 18446744073709551616 := by omega
  have q4 : x / 4294967296 * (y / 4294967296) + (x / 4294967296 * (y % 4294967296) + x % 4294967296 * (y % 4294967296) / 4294967296) / 4294967296 < 18446744073709551616 := by omega
  have q5 : x / 4294967296 * (y / 4294967296) + (x / 4294967296 * (y % 4294967296) + x % 4294967296 * (y % 4294967296) / 4294967296) / 4294967296 + ((x / 4294967296 * (y % 4294967296) + x % 4294967296 * (y % 4294967296) / 4294967296) % 4294967296 + x % 4294967296 * (y / 4294967296)) / 4294967296 < 18446744073709551616 := by omega
  go_enter Try.func97, Try.ntmps97
  go_wp2
  simp only [half32 x hx, half32 y hy, div32, nmul, nadd, nwrap _ bd, nwrap _ q2, nwrap _ bt, half32 _ bt, nwrap _ q3, nwrap _ bw, nwrap _ q1, nwrap _ q4, nwrap _ q5, nwrapm (x * y)]
  rw [hhi]
  go_ret2
  exact ⟨rfl, rfl⟩

/-- The product's halves, out of those of the numbers read without a sign. -/
theorem product_facts (a b : Int) (a1 : -9223372036854775808 ≤ a) (a2 : a ≤ 9223372036854775807) (b1 : -9223372036854775808 ≤ b) (b2 : b ≤ 9223372036854775807) (x y : Nat) (hx : (x : Int) = a % 18446744073709551616) (hy : (y : Int) = b % 18446744073709551616) (h : Int)
    (hh : h = (if b < 0 then (if a < 0 then ((x * y / 18446744073709551616 : Nat) : Int) - (y : Int) else ((x * y / 18446744073709551616 : Nat) : Int)) - (x : Int) else (if a < 0 then ((x * y / 18446744073709551616 : Nat) : Int) - (y : Int) else ((x * y / 18446744073709551616 : Nat) : Int)))) :
    IsWide ((h + 9223372036854775808) % 18446744073709551616 - 9223372036854775808) ((x * y % 18446744073709551616 : Nat) : Int) (a * b) := by
  have hxl : x < 18446744073709551616 := by omega
  have hyl : y < 18446744073709551616 := by omega
  have hp : (x : Int) * (y : Int) = ((x * y / 18446744073709551616 : Nat) : Int) * 18446744073709551616 + ((x * y % 18446744073709551616 : Nat) : Int) := by
    rw [← Int.natCast_mul]
    have := Nat.div_add_mod (x * y) 18446744073709551616
    omega
  have hb1 : a * b ≤ 9223372036854775808 * 9223372036854775808 ∧ -(9223372036854775808 * 9223372036854775808) ≤ a * b := by
    have : (a * b).natAbs ≤ 9223372036854775808 * 9223372036854775808 := by rw [Int.natAbs_mul]; exact Nat.mul_le_mul (by omega) (by omega)
    omega
  have key : a * b = h * 18446744073709551616 + ((x * y % 18446744073709551616 : Nat) : Int) ∨ a * b = (h + 18446744073709551616) * 18446744073709551616 + ((x * y % 18446744073709551616 : Nat) : Int) := by
    generalize ((x * y / 18446744073709551616 : Nat) : Int) = H at *
    generalize ((x * y % 18446744073709551616 : Nat) : Int) = L at *
    by_cases ha : a < 0 <;> by_cases hb : b < 0
    · have ea : a = (x : Int) - 18446744073709551616 := by omega
      have eb : b = (y : Int) - 18446744073709551616 := by omega
      rw [if_pos hb, if_pos ha] at hh
      right
      rw [ea, eb, Int.sub_mul, Int.mul_sub, hp, hh]
      omega
    · have ea : a = (x : Int) - 18446744073709551616 := by omega
      have eb : b = (y : Int) := by omega
      rw [if_neg (by omega), if_pos ha] at hh
      left
      rw [ea, eb, Int.sub_mul, hp, hh]
      omega
    · have ea : a = (x : Int) := by omega
      have eb : b = (y : Int) - 18446744073709551616 := by omega
      rw [if_pos hb, if_neg (by omega)] at hh
      left
      rw [ea, eb, Int.mul_sub, hp, hh]
      omega
    · have ea : a = (x : Int) := by omega
      have eb : b = (y : Int) := by omega
      rw [if_neg (by omega), if_neg (by omega)] at hh
      left
      rw [ea, eb, hp, hh]
  have hL : 0 ≤ ((x * y % 18446744073709551616 : Nat) : Int) ∧ ((x * y % 18446744073709551616 : Nat) : Int) ≤ 18446744073709551615 := by
    have := Nat.mod_lt (x * y) (by decide : 18446744073709551616 > 0)
    omega
  generalize ((x * y % 18446744073709551616 : Nat) : Int) = L at *
  refine ⟨by omega, by omega, hL.1, hL.2, ?_⟩
  omega

theorem half_lt (x y : Nat) (xl : x < 18446744073709551616) (yl : y < 18446744073709551616) : x * y / 18446744073709551616 < 18446744073709551616 := by
  apply Nat.div_lt_of_lt_mul
  exact Nat.mul_lt_mul_of_lt_of_le xl (Nat.le_of_lt yl) (by omega)

theorem IsWide.of_eq {hi lo hi' lo' z : Int} (h : IsWide hi lo z) (e1 : hi = hi') (e2 : lo = lo') : IsWide hi' lo' z := by subst e1; subst e2; exact h

set_option maxRecDepth 100000 in
set_option maxHeartbeats 1000000 in
theorem product_calls (a b : Int) (w : World) (a1 : -9223372036854775808 ≤ a) (a2 : a ≤ 9223372036854775807) (b1 : -9223372036854775808 ≤ b) (b2 : b ≤ 9223372036854775807) :
    Calls Try.prog 76 #[.int .i64 a, .int .i64 b] w fun e w' => (∃ hi lo, e = .returned (.agg #[.int .i64 hi, .int .u64 lo]) ∧ IsWide hi lo (a * b)) ∧ Kept w w' := by
  by_cases ha : a < 0 <;> by_cases hb : b < 0
  · obtain ⟨x, hx⟩ : ∃ x : Nat, IntKind.u64.wrap a = (x : Int) := ⟨(IntKind.u64.wrap a).toNat, by rw [IntKind.wrap_u64]; omega⟩
    have fx : (x : Int) = a % 18446744073709551616 := by rw [← hx, IntKind.wrap_u64]
    obtain ⟨y, hy⟩ : ∃ y : Nat, IntKind.u64.wrap b = (y : Int) := ⟨(IntKind.u64.wrap b).toNat, by rw [IntKind.wrap_u64]; omega⟩
    have fy : (y : Int) = b % 18446744073709551616 := by rw [← hy, IntKind.wrap_u64]
    have PF := hid_of (product_facts a b a1 a2 b1 b2 x y fx fy _ rfl)
    have xl : x < 18446744073709551616 := by omega
    have yl : y < 18446744073709551616 := by omega
    have Hl := half_lt x y xl yl
    clear fx fy
    go_enter Try.func76, Try.ntmps76
    go_wp2_with fail
    refine (mul64_calls x y xl yl _).mono ?_
    rintro e w' ⟨rfl, rfl⟩
    generalize (x * y / 18446744073709551616) = H at *
    go_wp2
    go_returns
    refine ⟨⟨_, _, rfl, PF.out.of_eq ?_ rfl⟩, (Kept.refl _).alloc _⟩
    rw [if_pos hb, if_pos ha]
    unfold wrap64
    simp only [IntKind.wrap_u64]
    omega
  · obtain ⟨x, hx⟩ : ∃ x : Nat, IntKind.u64.wrap a = (x : Int) := ⟨(IntKind.u64.wrap a).toNat, by rw [IntKind.wrap_u64]; omega⟩
    have fx : (x : Int) = a % 18446744073709551616 := by rw [← hx, IntKind.wrap_u64]
    obtain ⟨y, rfl⟩ := Int.eq_ofNat_of_zero_le (by omega : 0 ≤ b)
    have fy : (y : Int) = (y : Int) % 18446744073709551616 := by omega
    have PF := hid_of (product_facts a (y : Int) a1 a2 b1 b2 x y fx fy _ rfl)
    have xl : x < 18446744073709551616 := by omega
    have yl : y < 18446744073709551616 := by omega
    have Hl := half_lt x y xl yl
    clear fx fy
    go_enter Try.func76, Try.ntmps76
    go_wp2_with fail
    refine (mul64_calls x y xl yl _).mono ?_
    rintro e w' ⟨rfl, rfl⟩
    generalize (x * y / 18446744073709551616) = H at *
    go_wp2
    go_returns
    refine ⟨⟨_, _, rfl, PF.out.of_eq ?_ rfl⟩, (Kept.refl _).alloc _⟩
    rw [if_neg (by omega), if_pos ha]
    unfold wrap64
    simp only [IntKind.wrap_u64]
    omega
  · obtain ⟨x, rfl⟩ := Int.eq_ofNat_of_zero_le (by omega : 0 ≤ a)
    have fx : (x : Int) = (x : Int) % 18446744073709551616 := by omega
    obtain ⟨y, hy⟩ : ∃ y : Nat, IntKind.u64.wrap b = (y : Int) := ⟨(IntKind.u64.wrap b).toNat, by rw [IntKind.wrap_u64]; omega⟩
    have fy : (y : Int) = b % 18446744073709551616 := by rw [← hy, IntKind.wrap_u64]
    have PF := hid_of (product_facts (x : Int) b a1 a2 b1 b2 x y fx fy _ rfl)
    have xl : x < 18446744073709551616 := by omega
    have yl : y < 18446744073709551616 := by omega
    have Hl := half_lt x y xl yl
    clear fx fy
    go_enter Try.func76, Try.ntmps76
    go_wp2_with fail
    refine (mul64_calls x y xl yl _).mono ?_
    rintro e w' ⟨rfl, rfl⟩
    generalize (x * y / 18446744073709551616) = H at *
    go_wp2
    go_returns
    refine ⟨⟨_, _, rfl, PF.out.of_eq ?_ rfl⟩, (Kept.refl _).alloc _⟩
    rw [if_pos hb, if_neg (by omega)]
    unfold wrap64
    simp only [IntKind.wrap_u64]
    omega
  · obtain ⟨x, rfl⟩ := Int.eq_ofNat_of_zero_le (by omega : 0 ≤ a)
    have fx : (x : Int) = (x : Int) % 18446744073709551616 := by omega
    obtain ⟨y, rfl⟩ := Int.eq_ofNat_of_zero_le (by omega : 0 ≤ b)
    have fy : (y : Int) = (y : Int) % 18446744073709551616 := by omega
    have PF := hid_of (product_facts (x : Int) (y : Int) a1 a2 b1 b2 x y fx fy _ rfl)
    have xl : x < 18446744073709551616 := by omega
    have yl : y < 18446744073709551616 := by omega
    have Hl := half_lt x y xl yl
    clear fx fy
    go_enter Try.func76, Try.ntmps76
    go_wp2_with fail
    refine (mul64_calls x y xl yl _).mono ?_
    rintro e w' ⟨rfl, rfl⟩
    generalize (x * y / 18446744073709551616) = H at *
    go_wp2
    go_returns
    refine ⟨⟨_, _, rfl, PF.out.of_eq ?_ rfl⟩, (Kept.refl _).alloc _⟩
    rw [if_neg (by omega), if_neg (by omega)]
    unfold wrap64
    omega
set_option maxRecDepth 100000 in
set_option maxHeartbeats 1000000 in
theorem compareP_calls (h1 l1 h2 l2 x y : Int) (w : World) (hx : IsWide h1 l1 x) (hy : IsWide h2 l2 y) :
    Calls Try.prog 77 #[.agg #[.int .i64 h1, .int .u64 l1], .agg #[.int .i64 h2, .int .u64 l2]] w fun e w' => e = .returned (.int .i64 (Dg.cmp x y)) ∧ Kept w w' := by
  have K2 : ∀ o1 o2, Kept w ((w.alloc o1).alloc o2) := fun o1 o2 => ((Kept.refl _).alloc _).alloc _
  obtain ⟨x1, x2, x3, x4, x5⟩ := hx
  obtain ⟨y1, y2, y3, y4, y5⟩ := hy
  by_cases he : h1 = h2
  · subst he
    by_cases hl : l1 = l2
    · subst hl
      rw [Dg.cmp_eq (by omega)]
      clear x5 y5
      go_enter Try.func77, Try.ntmps77
      go_wp2
      go_ret
      exact ⟨rfl, K2 _ _⟩
    · have e2 : (l1 == l2) = false := by simp [hl]
      have e3 : decide (h1 < h1) = false := by simp
      by_cases hlt : l1 < l2
      · rw [Dg.cmp_lt (by omega)]
        clear x5 y5
        go_enter Try.func77, Try.ntmps77
        go_wp2
        go_ret
        exact ⟨rfl, K2 _ _⟩
      · have e4 : decide (l1 < l2) = false := by simp [hlt]
        rw [Dg.cmp_gt (by omega)]
        clear x5 y5
        go_enter Try.func77, Try.ntmps77
        go_wp2
        go_ret
        exact ⟨rfl, K2 _ _⟩
  · have e1 : (h1 == h2) = false := by simp [he]
    by_cases hlt : h1 < h2
    · rw [Dg.cmp_lt (by omega)]
      clear x5 y5
      go_enter Try.func77, Try.ntmps77
      go_wp2
      go_ret
      exact ⟨rfl, K2 _ _⟩
    · have e4 : decide (h1 < h2) = false := by simp [hlt]
      rw [Dg.cmp_gt (by omega)]
      clear x5 y5
      go_enter Try.func77, Try.ntmps77
      go_wp2
      go_ret
      exact ⟨rfl, K2 _ _⟩
end Go.Proofs.Ytomopfjaebcpeaa
