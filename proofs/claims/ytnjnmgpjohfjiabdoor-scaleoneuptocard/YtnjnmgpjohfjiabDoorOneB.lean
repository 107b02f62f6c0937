/- math.normalize at a normal number, and the bits that math.ldexp turns. -/
import Derived.Test.YtnjnmgpjohfjiabDoorOneA
namespace Go.Proofs.YtnjnmgpjohfjiabDoor
open Go.RowKit

theorem not_small (x : Nat) (h1 : 4503599627370496 ≤ x % 9223372036854775808) (h2 : x % 9223372036854775808 < 9218868437227405312) : (FloatKind.f64.format.order (x % 9223372036854775808) 4503599627370496 == some .lt) = false := by
  have := Fl.lt_iff (x % 9223372036854775808) 4503599627370496 (by unfold Fl.nan; omega) (by unfold Fl.nan; omega)
  have e : ¬ Fl.sr (x % 9223372036854775808) < Fl.sr 4503599627370496 := by
    unfold Fl.sr
    rw [if_neg (by omega), if_neg (by omega)]
    omega
  rw [decide_eq_false e] at this
  exact this

set_option maxHeartbeats 1000000 in
theorem normalize_calls (x : Nat) (hx : x < 18446744073709551616) (h1 : 4503599627370496 ≤ x % 9223372036854775808) (h2 : x % 9223372036854775808 < 9218868437227405312) (w : World) :
    Calls Tryd.prog 37 #[.float .f64 x] w fun e w' => e = .returned (.tuple #[.float .f64 x, .int .i64 0]) ∧ w = w' := by
  have C := hid_of (fun w => abs_calls x hx w)
  have hs := not_small x h1 h2
  generalize x % 9223372036854775808 = r at C hs
  clear h1 h2 hx
  go_enter Tryd.func37, Tryd.ntmps37
  go_wp2_with (go_at_call 40; refine (C.out _).mono ?_; rintro e w' ⟨rfl, rfl⟩)
  refine bodyPost_ret (v := .tuple #[.float .f64 x, .int .i64 0]) (by simp [results, Tryd.results37, go_sem]) rfl ⟨rfl, rfl⟩

/-- The field read off. -/
theorem field_i64 (y : Nat) (hy : y < 4096) : bits .and .i64 (y : Int) 2047 = ((y % 2048 : Nat) : Int) := by
  have h1 : (BitVec.ofInt 64 2047).toNat = 2 ^ 11 - 1 := by decide
  have key : (BitVec.ofInt 64 (y : Int) &&& BitVec.ofInt 64 2047).toNat = ((y : Int) % ((2 ^ 64 : Nat) : Int)).toNat % 2 ^ 11 := by
    rw [BitVec.toNat_and, BitVec.toNat_ofInt, h1, Nat.and_two_pow_sub_one_eq_mod]
  show IntKind.i64.wrap ((BitVec.ofInt 64 (y : Int) &&& BitVec.ofInt 64 2047).toNat : Nat) = ((y % 2048 : Nat) : Int)
  rw [key, IntKind.wrap_i64]
  omega

theorem and_parts (n a b c d : Nat) (hb : b < 2 ^ n) (hd : d < 2 ^ n) : (a * 2 ^ n + b) &&& (c * 2 ^ n + d) = (a &&& c) * 2 ^ n + (b &&& d) := by
  have hp : 0 < 2 ^ n := Nat.two_pow_pos n
  have h1 : ((a * 2 ^ n + b) &&& (c * 2 ^ n + d)) / 2 ^ n = a &&& c := by
    rw [Nat.and_div_two_pow, Nat.mul_comm a, Nat.mul_comm c, Nat.mul_add_div hp, Nat.mul_add_div hp, Nat.div_eq_of_lt hb, Nat.div_eq_of_lt hd, Nat.add_zero, Nat.add_zero]
  have h2 : ((a * 2 ^ n + b) &&& (c * 2 ^ n + d)) % 2 ^ n = b &&& d := by
    rw [Nat.and_mod_two_pow, Nat.mul_comm a, Nat.mul_comm c, Nat.mul_add_mod, Nat.mul_add_mod, Nat.mod_eq_of_lt hb, Nat.mod_eq_of_lt hd]
  have h3 := Nat.div_add_mod ((a * 2 ^ n + b) &&& (c * 2 ^ n + d)) (2 ^ n)
  rw [h1, h2, Nat.mul_comm] at h3
  exact h3.symm

/-- The word's sign as a number. -/
def sw (s : Bool) : Nat := if s then 2048 else 0
theorem sw_and (s : Bool) (F : Nat) (hF : F < 2048) : (sw s + F) &&& 2048 = sw s := by
  have := and_parts 11 (if s then 1 else 0) F 1 0 (by omega) (by omega)
  cases s
  · unfold sw
    rw [if_neg (by simp)] at this ⊢
    simpa using this
  · unfold sw
    rw [if_pos rfl] at this ⊢
    simpa using this

/-- The field cut out. -/
theorem cut_field (F B : Nat) (s : Bool) (hF : F < 2048) (hB : B < 4503599627370496) :
    bits .andNot .u64 (((sw s + F) * 4503599627370496 + B : Nat) : Int) 9218868437227405312 = ((sw s * 4503599627370496 + B : Nat) : Int) := by
  have hs : sw s ≤ 2048 := by unfold sw; split <;> omega
  have h := u64_andNot_nat ((sw s + F) * 4503599627370496 + B) 9218868437227405312 (by omega) (by omega)
  refine h.trans (congrArg _ ?_)
  have e := and_parts 52 (sw s + F) B 2048 4503599627370495 (by omega) (by omega)
  rw [sw_and s F hF] at e
  have eb : B &&& 4503599627370495 = B := by
    have := Nat.and_two_pow_sub_one_eq_mod B 52
    rw [Nat.mod_eq_of_lt (by omega)] at this
    exact this
  rw [eb] at e
  exact e

/-- Another field put in. -/
theorem put_field (F B : Nat) (s : Bool) (hF : F < 2048) (hB : B < 4503599627370496) :
    bits .or .u64 ((sw s * 4503599627370496 + B : Nat) : Int) ((F * 4503599627370496 : Nat) : Int) = (((sw s + F) * 4503599627370496 + B : Nat) : Int) := by
  have hs : sw s ≤ 2048 := by unfold sw; split <;> omega
  have h := u64_or_nat (sw s * 4503599627370496 + B) (F * 4503599627370496) (by omega) (by omega)
  refine h.trans (congrArg _ ?_)
  have e1 : sw s * 4503599627370496 ||| B = sw s * 4503599627370496 + B := nat_join 52 _ _ (by omega) (by omega)
  have e2 : F * 4503599627370496 ||| B = F * 4503599627370496 + B := nat_join 52 _ _ (by omega) (by omega)
  have e3 : sw s * 4503599627370496 ||| (F * 4503599627370496 + B) = sw s * 4503599627370496 + (F * 4503599627370496 + B) := nat_join 63 _ _ (by unfold sw; split <;> omega) (by omega)
  rw [← e1, Nat.or_assoc, Nat.or_comm B, e2, e3]
  omega
end Go.Proofs.YtnjnmgpjohfjiabDoor
