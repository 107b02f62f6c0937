/- Copysign, and signs turned about. -/
import Derived.Test.YtnjnmgpjohfjiabDoorStrict
namespace Go.Proofs.YtnjnmgpjohfjiabDoor
open Go.RowKit

theorem nat_of_wf {a : Int} (h : (Lit.int .u64 a).wf = true) : ∃ x : Nat, a = (x : Int) ∧ x < 18446744073709551616 := by
  unfold Lit.wf at h
  rw [Bool.and_eq_true, decide_eq_true_iff, decide_eq_true_iff] at h
  have h1 : 0 ≤ a := h.1
  have h2 : a ≤ 18446744073709551615 := h.2
  exact ⟨a.toNat, by omega, by omega⟩

theorem cs1 : bits .andNot .u64 0 9223372036854775808 = 0 := by decide
theorem cs2 : bits .and .u64 13830554455654793216 9223372036854775808 = 9223372036854775808 := by decide
theorem cs3 : bits .or .u64 0 9223372036854775808 = 9223372036854775808 := by decide

theorem copysign_calls (w : World) : Calls Tryd.prog 38 #[.float .f64 0, .float .f64 13830554455654793216] w fun e w' => e = .returned (.float .f64 9223372036854775808) ∧ w = w' := by
  have h1 : ∀ w : World, (callFunc 13 #[.float .f64 0]).run Tryd.prog w = .ok (.value (.int .u64 0)) w := fun w => bits_run 0 w
  have h2 : ∀ w : World, (callFunc 13 #[.float .f64 13830554455654793216]).run Tryd.prog w = .ok (.value (.int .u64 13830554455654793216)) w := fun w => bits_run 13830554455654793216 w
  have h3 : ∀ w : World, (callFunc 20 #[.int .u64 9223372036854775808]).run Tryd.prog w = .ok (.value (.float .f64 9223372036854775808)) w := fun w => frombits_run 9223372036854775808 w
  have q1 := cs1
  have q2 := cs2
  have q3 := cs3
  go_enter Tryd.func38, Tryd.ntmps38
  go_wp2
  go_ret
  exact ⟨rfl, rfl⟩

/-- The label with its sign turned about. -/
theorem negFloat_eq (x : Nat) (hx : x < 18446744073709551616) : Op.negFloat .f64 x = if 9223372036854775808 ≤ x then x - 9223372036854775808 else x + 9223372036854775808 := by
  show x ^^^ 2 ^ 63 = _
  have h1 : (x ^^^ 2 ^ 63) / 2 ^ 63 = (x / 2 ^ 63) ^^^ 1 := by
    rw [Nat.xor_div_two_pow]
  have h2 : (x ^^^ 2 ^ 63) % 2 ^ 63 = x % 2 ^ 63 := by
    rw [Nat.xor_mod_two_pow, show (2 ^ 63 % 2 ^ 63 : Nat) = 0 by decide, Nat.xor_zero]
  by_cases h : 9223372036854775808 ≤ x
  · rw [if_pos h]
    have e : x / 2 ^ 63 = 1 := by omega
    rw [e, show (1 ^^^ 1 : Nat) = 0 by decide] at h1
    omega
  · rw [if_neg h]
    have e : x / 2 ^ 63 = 0 := by omega
    rw [e, show (0 ^^^ 1 : Nat) = 1 by decide] at h1
    omega

theorem negFloat_facts (x : Nat) (hx : x < 18446744073709551616) (hn : ¬ Fl.nan x) : Op.negFloat .f64 x < 18446744073709551616 ∧ ¬ Fl.nan (Op.negFloat .f64 x) ∧ fkey (Op.negFloat .f64 x) = -fkey x - 1 := by
  rw [negFloat_eq x hx]
  by_cases h : 9223372036854775808 ≤ x
  · rw [if_pos h]
    have n' : ¬ Fl.nan (x - 9223372036854775808) := by unfold Fl.nan at hn ⊢; omega
    refine ⟨by omega, n', ?_⟩
    unfold fkey fneg
    rw [if_neg n', if_neg hn, decide_eq_false (by omega), decide_eq_true h, if_neg (by decide), if_pos rfl]
    omega
  · rw [if_neg h]
    have n' : ¬ Fl.nan (x + 9223372036854775808) := by unfold Fl.nan at hn ⊢; omega
    refine ⟨by omega, n', ?_⟩
    unfold fkey fneg
    rw [if_neg n', if_neg hn, decide_eq_true (by omega), decide_eq_false h, if_pos rfl, if_neg (by decide)]
    omega

theorem feq_self (x : Nat) : (FloatKind.f64.format.order x x == some .eq) = decide (¬ Fl.nan x) := Fl.nan_iff x
theorem feq (x y : Nat) (hx : ¬ Fl.nan x) (hy : ¬ Fl.nan y) : (FloatKind.f64.format.order x y == some .eq) = decide (Fl.sr x = Fl.sr y) := Fl.eq_iff x y hx hy
theorem fneq (x y : Nat) (hx : ¬ Fl.nan x) (hy : ¬ Fl.nan y) : (FloatKind.f64.format.order x y != some .eq) = !decide (Fl.sr x = Fl.sr y) := by
  show (!(FloatKind.f64.format.order x y == some .eq)) = _
  rw [feq x y hx hy]
end Go.Proofs.YtnjnmgpjohfjiabDoor
