/- The magnitude of an int64 and the greatest common divisor: what the calls answer. -/
import Derived.Test.YtomopfjaebcpeaaBase
import Derived.WalkKit
import Derived.WalkSpells
import Derived.WalkLawsBesides
import Derived.BigQuiet
import Derived.Handy
import Derived.Deep.QuietTactic
namespace Go.Proofs.Ytomopfjaebcpeaa
open Go.RowKit

set_option maxHeartbeats 400000 in
theorem mag_calls (a : Int) (w : World) (h1 : -9223372036854775808 ≤ a) (h2 : a ≤ 9223372036854775807) :
    Calls Try.prog 70 #[.int .i64 a] w fun e w' => e = .returned (.int .u64 (a.natAbs : Int)) ∧ w = w' := by
  by_cases h : a < 0
  · have e1 : IntKind.u64.wrap (-IntKind.u64.wrap a) = (a.natAbs : Int) := by simp only [IntKind.wrap_u64]; omega
    go_enter Try.func70, Try.ntmps70
    go_wp2
    go_ret
    exact ⟨rfl, rfl⟩
  · go_enter Try.func70, Try.ntmps70
    go_wp2
    go_ret
    exact ⟨ret_int (by omega), rfl⟩

theorem gcd_step (x y : Nat) : Nat.gcd y (x % y) = Nat.gcd x y := by rw [Nat.gcd_comm x y, Nat.gcd_rec y x, Nat.gcd_comm]

set_option maxHeartbeats 400000 in
theorem gcd_calls (a b : Int) (w : World) (h1 : -9223372036854775808 ≤ a) (h2 : a ≤ 9223372036854775807) (h3 : -9223372036854775808 ≤ b) (h4 : b ≤ 9223372036854775807) :
    Calls Try.prog 26 #[.int .i64 a, .int .i64 b] w fun e w' => e = .returned (.int .u64 (Int.gcd a b : Int)) ∧ ∃ n, w' = w.drewN n := by
  have HG : Hid (Int.gcd a b = Nat.gcd a.natAbs b.natAbs) := rfl
  go_enter Try.func26, Try.ntmps26
  go_wp2_with fail
  refine (mag_calls a _ h1 h2).mono ?_
  rintro e w' ⟨rfl, rfl⟩
  go_wp2_with fail
  refine (mag_calls b _ h3 h4).mono ?_
  rintro e w' ⟨rfl, rfl⟩
  go_wp2_with fail
  go_loopw [5, 6] (fun s t wr => ∃ x y : Nat, x ≤ 9223372036854775808 ∧ y ≤ 9223372036854775808 ∧ s = .int .u64 x ∧ t = .int .u64 y ∧ Nat.gcd x y = Nat.gcd a.natAbs b.natAbs ∧ ∃ n, wr = w.drewN n) (fun _ t _ => (intOf t).toNat)
  case atStart => exact ⟨_, _, by omega, by omega, rfl, rfl, rfl, 0, rfl⟩
  case round =>
    obtain ⟨x, y, hx, hy, rfl, rfl, hg, n, rfl⟩ := hrel
    have HR : Hid (Nat.gcd x y = Nat.gcd a.natAbs b.natAbs) := hg
    clear hg
    by_cases hy0 : y = 0
    · subst hy0
      go_wp2
      go_ret
      exact ⟨ret_int (by rw [HG.out, ← HR.out]; simp), _, rfl⟩
    · have hne : ((y : Int) != 0) = true := by simp; omega
      have hne2 : ¬ ((y : Int) = 0) := by omega
      have hm : ((x : Int) % (y : Int)) = ((x % y : Nat) : Int) := by simp
      have hlt : x % y < y := Nat.mod_lt _ (by omega)
      go_wp2
      go_quiet (fail)
      go_wp2
      go_roundw
      case rel => exact ⟨y, x % y, by omega, by omega, rfl, by go_num, by rw [gcd_step]; exact HR.out, n + nq, World.drewN_drewN ..⟩
      case measure => simp [intOf]; omega
end Go.Proofs.Ytomopfjaebcpeaa
