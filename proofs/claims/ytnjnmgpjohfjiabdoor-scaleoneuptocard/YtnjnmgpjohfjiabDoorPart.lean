/- What a label's magnitude is made of, in the program. -/
import Derived.Test.YtnjnmgpjohfjiabDoorNear
import Derived.Lib.TrailingZeros
namespace Go.Proofs.YtnjnmgpjohfjiabDoor
open Go.RowKit

/-- The library's table of places of bits lies in its variable. -/
def Tab (w : World) : Prop := ∀ j, j < 64 → w.cell? ⟨3, j, none⟩ = some (.int .u8 ((Lib.deBruijn64tab.getD j 0 : Nat) : Int))

theorem Tab.kept {w w' : World} (h : Tab w) (k : Kept w w') : Tab w' := fun j hj => k.cell (h j hj)

theorem tz_key (x a : Nat) (hx : x < 18446744073709551616) (hx0 : x ≠ 0) (hlow : x &&& (18446744073709551616 - x) = a) :
    IntKind.u64.wrap (bits .and .u64 (x : Int) (IntKind.u64.wrap (-(x : Int))) * 285870213051353865) / 288230376151711744 = ((a * 285870213051353865 % 18446744073709551616 / 288230376151711744 : Nat) : Int) := by
  have e1 : IntKind.u64.wrap (-(x : Int)) = ((18446744073709551616 - x : Nat) : Int) := by rw [IntKind.wrap_u64]; omega
  rw [e1, u64_and_nat x _ hx (by omega), hlow, IntKind.wrap_u64]
  omega

theorem nat_ex (x : Nat) : ∃ y, x = y := ⟨x, rfl⟩

set_option maxRecDepth 100000 in
set_option maxHeartbeats 1000000 in
theorem tz_calls (x : Nat) (hx : x < 18446744073709551616) (hx0 : x ≠ 0) (w : World) (hT : Tab w) : Calls Tryd.prog 41 #[.int .u64 (x : Int)] w fun e w' => e = .returned (.int .i64 ((Lib.ctz 64 x : Nat) : Int)) ∧ w = w' := by
  obtain ⟨hlow, hk⟩ := Lib.lowest_bit 64 x hx0 hx
  obtain ⟨hi, htab⟩ := Lib.deBruijn64_at _ hk
  have hc := hT _ hi
  rw [htab] at hc
  have key := tz_key x _ hx hx0 hlow
  have q1 : ((x : Int) == 0) = false := by simp; omega
  generalize Lib.ctz 64 x = k at hk hc key hi
  clear hlow htab
  revert hi hc key
  generalize 2 ^ k = p
  intro hi hc key
  obtain ⟨idx, hidx⟩ := nat_ex (p * 285870213051353865 % 18446744073709551616 / 288230376151711744)
  rw [hidx] at hi hc key
  clear hidx
  go_enter Tryd.func41, Tryd.ntmps41
  go_wp2_with (simp only [key])
  go_ret
  exact ⟨rfl, rfl⟩

/-- A label's digits, and their place above the last one that there is. -/
def digs (x : Nat) : Nat := if 0 < x / 4503599627370496 % 2048 then 4503599627370496 + x % 4503599627370496 else x % 4503599627370496
def fld (x : Nat) : Nat := x / 4503599627370496 % 2048 - 1

def podd (x : Nat) : Nat := if digs x = 0 then 0 else digs x / 2 ^ Lib.ctz 64 (digs x)
def pexp (x : Nat) : Int := if digs x = 0 then 0 else -1074 + (fld x : Int) + (Lib.ctz 64 (digs x) : Int)

theorem digs_lt (x : Nat) : digs x < 9007199254740992 := by unfold digs; split <;> omega

/-- Odd digits. -/
theorem ctz_facts (d : Nat) (h0 : d ≠ 0) (h : d < 9007199254740992) : d / 2 ^ Lib.ctz 64 d % 2 = 1 ∧ d = d / 2 ^ Lib.ctz 64 d * 2 ^ Lib.ctz 64 d ∧ Lib.ctz 64 d ≤ 52 := by
  obtain ⟨m, e, hk⟩ := Lib.ctzFrom_spec 64 d (by omega) (Nat.lt_trans h (by decide))
  have ec : Lib.ctz 64 d = Lib.ctzFrom 64 d := by unfold Lib.ctz; rw [if_neg h0]
  rw [ec]
  generalize Lib.ctzFrom 64 d = k at e hk
  have hq : d / 2 ^ k = 2 * m + 1 := by rw [e, Nat.mul_div_cancel_left _ (Nat.two_pow_pos k)]
  refine ⟨by rw [hq]; omega, by rw [hq, Nat.mul_comm]; exact e, ?_⟩
  by_cases c : k ≤ 52
  · exact c
  · have h1 : 2 ^ 53 ≤ 2 ^ k := Nat.pow_le_pow_right (by omega) (by omega)
    have h2 : 2 ^ k ≤ d := by rw [e]; exact Nat.le_mul_of_pos_right _ (by omega)
    omega

theorem part_facts (x : Nat) : (digs x = 0 ∧ podd x = 0 ∧ pexp x = 0) ∨ (digs x ≠ 0 ∧ podd x % 2 = 1 ∧ podd x < 9007199254740992 ∧ ∃ z : Nat, z ≤ 52 ∧ digs x = podd x * 2 ^ z ∧ pexp x = -1074 + (fld x : Int) + (z : Int)) := by
  by_cases h : digs x = 0
  · left; exact ⟨h, by unfold podd; rw [if_pos h], by unfold pexp; rw [if_pos h]⟩
  · right
    obtain ⟨h1, h2, h3⟩ := ctz_facts (digs x) h (digs_lt x)
    have e1 : podd x = digs x / 2 ^ Lib.ctz 64 (digs x) := by unfold podd; rw [if_neg h]
    have e2 : pexp x = -1074 + (fld x : Int) + (Lib.ctz 64 (digs x) : Int) := by unfold pexp; rw [if_neg h]
    refine ⟨h, by rw [e1]; exact h1, ?_, Lib.ctz 64 (digs x), h3, by rw [e1]; exact h2, e2⟩
    rw [e1]
    exact Nat.lt_of_le_of_lt (Nat.div_le_self _ _) (digs_lt x)

theorem pexp_bd (x : Nat) : -1074 ≤ pexp x ∧ pexp x ≤ 1024 := by
  have hf : fld x ≤ 2046 := by unfold fld; omega
  rcases part_facts x with ⟨_, _, h⟩ | ⟨_, _, _, z, hz, _, h⟩ <;> omega

theorem mask52 (x : Nat) (hx : x < 18446744073709551616) : bits .and .u64 (x : Int) 4503599627370495 = ((x % 4503599627370496 : Nat) : Int) := by
  have h := u64_and_nat x 4503599627370495 hx (by omega)
  rw [show (4503599627370495 : Nat) = 2 ^ 52 - 1 by decide, Nat.and_two_pow_sub_one_eq_mod] at h
  exact h
theorem mask11 (y : Nat) (hy : y < 18446744073709551616) : bits .and .u64 (y : Int) 2047 = ((y % 2048 : Nat) : Int) := by
  have h := u64_and_nat y 2047 hy (by omega)
  rw [show (2047 : Nat) = 2 ^ 11 - 1 by decide, Nat.and_two_pow_sub_one_eq_mod] at h
  exact h
theorem hidden (d : Nat) (hd : d < 4503599627370496) : bits .or .u64 (d : Int) 4503599627370496 = ((4503599627370496 + d : Nat) : Int) := by
  have h1 := u64_or_nat d 4503599627370496 (by omega) (by omega)
  rw [Nat.or_comm, nat_join 52 4503599627370496 d (by decide) hd] at h1
  exact h1

set_option maxRecDepth 100000 in
set_option maxHeartbeats 2000000 in
theorem part_calls (x : Nat) (hx : x < 18446744073709551616) (w : World) (hT : Tab w) : Calls Tryd.prog 33 #[.float .f64 x] w fun e w' => e = .returned (.tuple #[.int .u64 ((podd x : Nat) : Int), .int .i64 (pexp x)]) ∧ w = w' := by
  have hb := bits_run x
  obtain ⟨f, hf⟩ : ∃ f, x / 4503599627370496 % 2048 = f := ⟨_, rfl⟩
  obtain ⟨l, hl⟩ : ∃ l, x % 4503599627370496 = l := ⟨_, rfl⟩
  have m1 := mask52 x hx
  have m2 : bits .and .u64 ((x : Int) / 4503599627370496) 2047 = (f : Int) := by
    have h := mask11 (x / 4503599627370496) (by omega)
    rw [hf] at h
    exact h
  rw [hl] at m1
  have l1 : l < 4503599627370496 := by omega
  have f1 : f < 2048 := by omega
  have hh := hidden l l1
  have ed : digs x = if 0 < f then 4503599627370496 + l else l := by unfold digs; rw [hf, hl]
  have ef : fld x = f - 1 := by unfold fld; rw [hf]
  by_cases h0 : digs x = 0
  · have e1 : podd x = 0 := by unfold podd; rw [if_pos h0]
    have e2 : pexp x = 0 := by unfold pexp; rw [if_pos h0]
    rw [e1, e2]
    have f0 : f = 0 := by
      by_cases c : 0 < f
      · rw [ed, if_pos c] at h0; omega
      · omega
    have l0 : l = 0 := by rw [ed, if_neg (by omega)] at h0; exact h0
    subst f0 l0
    clear hf hl ed ef e1 e2 h0 hh
    go_enter Tryd.func33, Tryd.ntmps33
    go_wp2
    go_ret2
    exact ⟨rfl, rfl⟩
  · have e1 : podd x = digs x / 2 ^ Lib.ctz 64 (digs x) := by unfold podd; rw [if_neg h0]
    have e2 : pexp x = -1074 + (fld x : Int) + (Lib.ctz 64 (digs x) : Int) := by unfold pexp; rw [if_neg h0]
    rw [e1, e2, ef]
    obtain ⟨-, -, h52⟩ := ctz_facts (digs x) h0 (digs_lt x)
    have hlt := digs_lt x
    have C := hid_of (fun (w : World) (hT : Tab w) => tz_calls (digs x) (by omega) h0 w hT)
    clear e1 e2
    generalize Lib.ctz 64 (digs x) = z at h52 C
    have hq : ∀ d : Nat, (d : Int) / 2 ^ z = ((d / 2 ^ z : Nat) : Int) := fun d => by rw [two_pow_int]; simp
    by_cases c : 0 < f
    · rw [ed, if_pos c] at C hlt h0 ⊢
      obtain ⟨d, hd⟩ : ∃ d, 4503599627370496 + l = d := ⟨_, rfl⟩
      rw [hd] at C hlt h0 hh ⊢
      have g1 : (0 : Int) < (f : Int) := by omega
      have g2 : ((d : Int) == 0) = false := by simp; omega
      rw [← hq d, show ((f - 1 : Nat) : Int) = (f : Int) - 1 by omega]
      clear hq hf hl ed ef hd
      go_enter Tryd.func33, Tryd.ntmps33
      go_wp2_with (go_at_call 41; refine (C.out _ hT).mono ?_; rintro e w' ⟨rfl, rfl⟩)
      go_ret2
      exact ⟨rfl, rfl⟩
    · rw [ed, if_neg c] at C hlt h0 ⊢
      obtain rfl : f = 0 := by omega
      have g2 : ((l : Int) == 0) = false := by simp; omega
      rw [← hq l]
      clear hq hf hl ed ef hh
      go_enter Tryd.func33, Tryd.ntmps33
      go_wp2_with (go_at_call 41; refine (C.out _ hT).mono ?_; rintro e w' ⟨rfl, rfl⟩)
      go_ret2
      exact ⟨by simp, rfl⟩
end Go.Proofs.YtnjnmgpjohfjiabDoor
