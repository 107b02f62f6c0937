/- Rounding to the nearest float64, in the document. -/
import Derived.Test.YtikmollocchfnabDoorNear
import Derived.Test.YtikmollocchfnabDoorFlX
import Derived.Deep.CutBlock
import Derived.Deep.DeepCutAuto
namespace Go.Proofs.YtikmollocchfnabDoor
open Go.RowKit

theorem near_low (m : Nat) (s : Bool) (e : Int) (hm : m < 18446744073709551616) (hm0 : m ≠ 0) (he : e < -1300) : Fl.near m s e = 0 := by
  have hl : m.log2 < 64 := by
    have h1 := Fl.log2_lo hm0
    by_cases c : m.log2 < 64
    · exact c
    · have : 2 ^ 64 ≤ 2 ^ m.log2 := Nat.pow_le_pow_right (by omega) (by omega)
      omega
  have hlast : Fl.lastOf m e = -1074 := by unfold Fl.lastOf; omega
  unfold Fl.near Fl.top
  rw [hlast, if_neg (by omega), off_gone m s _ hm (by omega)]
  decide

theorem near_high (m : Nat) (s : Bool) (e : Int) (he : 1100 < e) : Fl.near m s e = 9218868437227405312 := by
  have hlast : 1048 < Fl.lastOf m e := by unfold Fl.lastOf; omega
  unfold Fl.near Fl.top
  have : 2123 ≤ (Fl.lastOf m e + 1074).toNat := by omega
  generalize (Fl.lastOf m e + 1074).toNat = L at this
  have h2 : 2123 * 4503599627370496 ≤ L * 4503599627370496 := Nat.mul_le_mul_right _ this
  exact Nat.min_eq_right (Nat.le_trans (by decide) (Nat.le_trans h2 (Nat.le_add_right _ _)))

/-- The last digit that was dropped; whether one before it was not nought. -/
def hb (m : Nat) : Nat → Bool
  | 0 => false
  | i + 1 => decide (m / 2 ^ i % 2 = 1)
def rs (m : Nat) (s : Bool) : Nat → Bool
  | 0 => s
  | i + 1 => s || decide (m % 2 ^ i ≠ 0)

theorem mod_succ (m i : Nat) : m % 2 ^ (i + 1) = m / 2 ^ i % 2 * 2 ^ i + m % 2 ^ i := by
  rw [Nat.pow_succ, Nat.mod_mul, Nat.mul_comm (2 ^ i), Nat.add_comm]

theorem rs_step (m : Nat) (s : Bool) (i : Nat) : rs m s (i + 1) = (hb m i || rs m s i) := by
  cases i with
  | zero => simp [rs, hb, Nat.mod_one]
  | succ i =>
    show (s || decide (m % 2 ^ (i + 1) ≠ 0)) = (decide (m / 2 ^ i % 2 = 1) || (s || decide (m % 2 ^ i ≠ 0)))
    rw [mod_succ]
    have hp := Nat.two_pow_pos i
    have hb2 : m / 2 ^ i % 2 = 0 ∨ m / 2 ^ i % 2 = 1 := by omega
    rcases hb2 with h | h
    · rw [h, Nat.zero_mul, Nat.zero_add]; simp
    · rw [h, Nat.one_mul]
      simp

theorem off_bits (m : Nat) (s : Bool) (i : Nat) : Fl.off m s (i + 1) = m / 2 ^ (i + 1) + (if hb m (i + 1) = true ∧ (rs m s (i + 1) = true ∨ m / 2 ^ (i + 1) % 2 = 1) then 1 else 0) := by
  have hp := Nat.two_pow_pos i
  have hlt := Nat.mod_lt m hp
  have hms := mod_succ m i
  have e2 : 2 ^ (i + 1) = 2 * 2 ^ i := by rw [Nat.pow_succ, Nat.mul_comm]
  unfold Fl.off
  congr 1
  have hb2 : m / 2 ^ i % 2 = 0 ∨ m / 2 ^ i % 2 = 1 := by omega
  have key : (2 ^ (i + 1) < 2 * (m % 2 ^ (i + 1)) ∨ (2 * (m % 2 ^ (i + 1)) = 2 ^ (i + 1) ∧ (s = true ∨ m / 2 ^ (i + 1) % 2 = 1))) ↔ (hb m (i + 1) = true ∧ (rs m s (i + 1) = true ∨ m / 2 ^ (i + 1) % 2 = 1)) := by
    show _ ↔ (decide (m / 2 ^ i % 2 = 1) = true ∧ ((s || decide (m % 2 ^ i ≠ 0)) = true ∨ m / 2 ^ (i + 1) % 2 = 1))
    rw [hms, e2]
    generalize m / (2 * 2 ^ i) % 2 = z
    simp only [decide_eq_true_eq, Bool.or_eq_true, ne_eq]
    rcases hb2 with h | h
    · rw [h, Nat.zero_mul, Nat.zero_add]
      constructor
      · rintro (t | ⟨t, _⟩) <;> omega
      · rintro ⟨t, _⟩; omega
    · rw [h, Nat.one_mul]
      generalize 2 ^ i = p at hp hlt
      generalize m % p = r at hlt
      constructor
      · rintro (t | ⟨t, u⟩)
        · exact ⟨rfl, .inl (.inr (by omega))⟩
        · rcases u with u | u
          · exact ⟨rfl, .inl (.inl u)⟩
          · exact ⟨rfl, .inr u⟩
      · rintro ⟨_, (u | u) | u⟩
        · by_cases c : r = 0
          · right; exact ⟨by omega, .inl u⟩
          · left; omega
        · left; omega
        · by_cases c : r = 0
          · right; exact ⟨by omega, .inr u⟩
          · left; omega
  by_cases c : (hb m (i + 1) = true ∧ (rs m s (i + 1) = true ∨ m / 2 ^ (i + 1) % 2 = 1))
  · rw [if_pos c, if_pos (key.2 c)]
  · rw [if_neg c, if_neg (fun t => c (key.1 t))]

set_option maxHeartbeats 1000000 in
theorem length_calls (m : Nat) (hm : m < 18446744073709551616) (w : World) : Calls Tryd.prog 36 #[.int .u64 (m : Int)] w fun e w' => e = .returned (.int .i64 (blen m : Int)) ∧ w = w' := by
  have hbm := blen_le m hm
  go_enter Tryd.func36, Tryd.ntmps36
  go_wp2
  go_loop [0, 3] (fun x n => ∃ k a : Nat, x = .int .u64 (a : Int) ∧ n = .int .i64 (k : Int) ∧ k + blen a = blen m ∧ a ≤ m) (fun x _ => (intOf x).toNat)
  case atStart => exact ⟨0, m, rfl, rfl, by omega, Nat.le_refl _⟩
  case round =>
    obtain ⟨k, a, rfl, rfl, hk, ham⟩ := hrel
    by_cases ha : a = 0
    · subst ha
      have hk' : k = blen m := by have : blen 0 = 0 := rfl; omega
      have HK := hid_of hk'
      clear hk hk'
      go_wp2
      go_ret
      exact ⟨ret_int (by rw [HK.out]), rfl⟩
    · have hb2 : blen a = blen (a / 2) + 1 := by
        unfold blen
        rw [if_neg ha]
        by_cases c : a / 2 = 0
        · have : a = 1 := by omega
          subst this; rfl
        · rw [if_neg c, Nat.log2_def a, if_pos (by omega)]
      have ha' : (0 : Int) < (a : Int) := by omega
      have HB := hid_of hb2
      have HK := hid_of hk
      have hk63 : k < 64 := by omega
      clear hb2 hk
      go_wp2
      go_round
      case rel => exact ⟨k + 1, a / 2, by go_num, by go_num, by have := HB.out; have := HK.out; omega, by omega⟩
      case measure => simp [intOf]; omega

/-- The word that the document answers. -/
def nearWord (neg : Bool) (m : Nat) (e : Int) (s : Bool) : Nat := if m = 0 then 0 else Ieee.double.word neg (Fl.near m s e)

/-- The last lines: what is kept of the digits, and the place, as a word. -/
theorem near_end (K L : Nat) (hK : K ≤ 9007199254740992) (hL : L = 0 ∨ 4503599627370496 ≤ K) :
    (K = 9007199254740992 ∧ ((2047 ≤ L + 2 ∧ min (L * 4503599627370496 + K) 9218868437227405312 = 9218868437227405312) ∨ (L + 2 < 2047 ∧ min (L * 4503599627370496 + K) 9218868437227405312 = (L + 2) * 4503599627370496))) ∨
    (K < 4503599627370496 ∧ min (L * 4503599627370496 + K) 9218868437227405312 = K) ∨
    (4503599627370496 ≤ K ∧ K < 9007199254740992 ∧ ((2047 ≤ L + 1 ∧ min (L * 4503599627370496 + K) 9218868437227405312 = 9218868437227405312) ∨ (L + 1 < 2047 ∧ min (L * 4503599627370496 + K) 9218868437227405312 = (L + 1) * 4503599627370496 + (K - 4503599627370496)))) := by
  by_cases c1 : K = 9007199254740992
  · left
    subst c1
    refine ⟨rfl, ?_⟩
    by_cases c2 : 2047 ≤ L + 2
    · left; exact ⟨c2, by omega⟩
    · right; exact ⟨by omega, by omega⟩
  · by_cases c2 : K < 4503599627370496
    · right; left
      have : L = 0 := by omega
      subst this
      exact ⟨c2, by omega⟩
    · right; right
      refine ⟨by omega, by omega, ?_⟩
      by_cases c3 : 2047 ≤ L + 1
      · left; exact ⟨c3, by omega⟩
      · right; exact ⟨by omega, by omega⟩

/-- The place of the last digit kept, from the digit's. -/
theorem last_cut (m : Nat) (e : Int) (hm : m ≠ 0) : Fl.lastOf m e - e = max ((blen m : Int) - 53) (-1074 - e) := by
  unfold Fl.lastOf blen
  rw [if_neg hm]
  omega

/-- The digits that are kept, where none is dropped. -/
theorem kept_up (m t : Nat) (hm : m ≠ 0) (h : blen m + t ≤ 53) : m * 2 ^ t < 9007199254740992 ∧ (blen m + t = 53 → 4503599627370496 ≤ m * 2 ^ t) := by
  have e : blen m = m.log2 + 1 := by unfold blen; rw [if_neg hm]
  have h1 := Fl.log2_lo hm
  have h2 := Fl.log2_hi m
  constructor
  · calc m * 2 ^ t < 2 ^ (m.log2 + 1) * 2 ^ t := Nat.mul_lt_mul_of_pos_right h2 (Nat.two_pow_pos t)
      _ = 2 ^ (m.log2 + 1 + t) := by rw [← Nat.pow_add]
      _ ≤ 2 ^ 53 := Nat.pow_le_pow_right (by omega) (by omega)
      _ = 9007199254740992 := by decide
  · intro h3
    calc 4503599627370496 = 2 ^ m.log2 * 2 ^ t := by rw [← Nat.pow_add, show m.log2 + t = 52 by omega]
      _ ≤ m * 2 ^ t := Nat.mul_le_mul_right _ h1
theorem kept_down (m d : Nat) (hm : m ≠ 0) (h : blen m ≤ 53 + d) : m / 2 ^ d < 9007199254740992 ∧ (blen m = 53 + d → 4503599627370496 ≤ m / 2 ^ d) := by
  have e : blen m = m.log2 + 1 := by unfold blen; rw [if_neg hm]
  have h1 := Fl.log2_lo hm
  have h2 := Fl.log2_hi m
  constructor
  · rw [Nat.div_lt_iff_lt_mul (Nat.two_pow_pos d)]
    calc m < 2 ^ (m.log2 + 1) := h2
      _ ≤ 2 ^ (53 + d) := Nat.pow_le_pow_right (by omega) (by omega)
      _ = 9007199254740992 * 2 ^ d := by rw [Nat.pow_add]
  · intro h3
    rw [Nat.le_div_iff_mul_le (Nat.two_pow_pos d)]
    calc 4503599627370496 * 2 ^ d = 2 ^ (52 + d) := by rw [Nat.pow_add]
      _ = 2 ^ m.log2 := by congr 1; omega
      _ ≤ m := h1

/-- What is known behind the two loops: the digits, the place, and the rounding. -/
structure NEnd (m : Nat) (s : Bool) (e : Int) (K : Nat) (L : Nat) : Prop where
  top : K ≤ 9007199254740992
  low : L = 0 ∨ 4503599627370496 ≤ K
  val : Fl.near m s e = min (L * 4503599627370496 + K) 9218868437227405312

theorem NEnd.up (m t : Nat) (s : Bool) (e : Int) (hm : m ≠ 0) (h : (t : Int) = e - Fl.lastOf m e) (hl : Fl.lastOf m e = (Fl.lastOf m e + 1074).toNat - 1074) : NEnd m s e (m * 2 ^ t) (Fl.lastOf m e + 1074).toNat := by
  have hc := last_cut m e hm
  obtain ⟨k1, k2⟩ := kept_up m t hm (by omega)
  refine ⟨by omega, ?_, ?_⟩
  · by_cases c : (Fl.lastOf m e + 1074).toNat = 0
    · exact .inl c
    · exact .inr (k2 (by omega))
  · unfold Fl.near
    rw [if_pos (by omega), show (e - Fl.lastOf m e).toNat = t by omega]
    rfl
theorem NEnd.down (m i : Nat) (s : Bool) (e : Int) (hm : m ≠ 0) (h : ((i + 1 : Nat) : Int) = Fl.lastOf m e - e) (hl : Fl.lastOf m e = (Fl.lastOf m e + 1074).toNat - 1074) :
    NEnd m s e (m / 2 ^ (i + 1) + (if hb m (i + 1) = true ∧ (rs m s (i + 1) = true ∨ m / 2 ^ (i + 1) % 2 = 1) then 1 else 0)) (Fl.lastOf m e + 1074).toNat := by
  have hc := last_cut m e hm
  obtain ⟨k1, k2⟩ := kept_down m (i + 1) hm (by omega)
  refine ⟨by split <;> omega, ?_, ?_⟩
  · by_cases c : (Fl.lastOf m e + 1074).toNat = 0
    · exact .inl c
    · have := k2 (by omega)
      exact .inr (by split <;> omega)
  · unfold Fl.near
    rw [if_neg (by omega), show (Fl.lastOf m e - e).toNat = i + 1 by omega, off_bits]
    rfl
end Go.Proofs.YtikmollocchfnabDoor
