/- Numbers of 64 bits and their products are far below the limit; equal numbers are held equal. -/
import Derived.Test.YtikmollocchfnabTimes
namespace Go.Proofs.Ytikmollocchfnab
open Go.RowKit

theorem lim64 {a : Int} (h1 : -9223372036854775808 ≤ a) (h2 : a ≤ 9223372036854775807) : a.natAbs < LIM := by
  have h : 18446744073709551616 ≤ LIM := by unfold LIM; decide
  omega
theorem lim128 {a b : Int} (h1 : -9223372036854775808 ≤ a) (h2 : a ≤ 9223372036854775807) (h3 : -9223372036854775808 ≤ b) (h4 : b ≤ 9223372036854775807) : (a * b).natAbs < LIM := by
  have h : 9223372036854775808 * 9223372036854775808 < LIM := by unfold LIM; decide
  rw [Int.natAbs_mul]
  have : a.natAbs * b.natAbs ≤ 9223372036854775808 * 9223372036854775808 := Nat.mul_le_mul (by omega) (by omega)
  omega

theorem compare_eq (v1 v2 : Value) (z : Int) (w : World) (h1 : BigAt w v1 z) (h2 : BigAt w v2 z) :
    Calls Try.prog 19 #[v1, v2] w fun e w' => e = .returned (.int .i64 0) ∧ Kept w w' := by
  have := compare_calls v1 v2 z z w h1 h2
  rw [Dg.cmp_eq rfl] at this
  exact this
end Go.Proofs.Ytikmollocchfnab
