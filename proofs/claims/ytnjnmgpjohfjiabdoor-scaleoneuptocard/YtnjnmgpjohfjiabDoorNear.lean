/- Rounding to the nearest float64, in the program. -/
import Derived.Test.YtnjnmgpjohfjiabDoorLen
import Derived.Test.YtnjnmgpjohfjiabDoorFlR
import Derived.Test.YtnjnmgpjohfjiabDoorStrict
namespace Go.Proofs.YtnjnmgpjohfjiabDoor
open Go.RowKit

theorem uwrap (x : Nat) (h : x < 18446744073709551616) : IntKind.u64.wrap (x : Int) = (x : Int) := by rw [IntKind.wrap_u64]; omega

set_option maxHeartbeats 1000000 in
theorem magnitude_calls (a : Int) (a1 : -9223372036854775808 ≤ a) (a2 : a ≤ 9223372036854775807) (w : World) : Calls Tryd.prog 23 #[.int .i64 a] w fun e w' => e = .returned (.int .u64 (a.natAbs : Int)) ∧ w = w' := by
  by_cases h : a < 0
  · go_enter Tryd.func23, Tryd.ntmps23
    go_wp2
    go_ret
    refine ⟨ret_int ?_, rfl⟩
    rw [IntKind.wrap_u64, IntKind.wrap_u64]
    omega
  · go_enter Tryd.func23, Tryd.ntmps23
    go_wp2
    go_ret
    refine ⟨ret_int ?_, rfl⟩
    omega

theorem two_pow_int (d : Nat) : (2 : Int) ^ d = ((2 ^ d : Nat) : Int) := by simp

theorem pow_lt64 (d : Nat) (h : d ≤ 63) : 2 ^ d < 18446744073709551616 := Nat.lt_of_le_of_lt (Nat.pow_le_pow_right (by omega) h) (by decide)

theorem off_facts (m d : Nat) (hm : m < 18446744073709551616) (h1 : 1 ≤ d) (h2 : d ≤ 64) :
    IntKind.u64.wrap ((m : Int) - IntKind.u64.wrap ((m : Int) / 2 ^ d * 2 ^ d)) = ((m % 2 ^ d : Nat) : Int) ∧ IntKind.u64.wrap (2 ^ (d - 1)) = ((2 ^ (d - 1) : Nat) : Int) ∧
    (m : Int) / 2 ^ d = ((m / 2 ^ d : Nat) : Int) ∧ IntKind.u64.wrap ((m : Int) / 2 ^ d + 1) = ((m / 2 ^ d + 1 : Nat) : Int) ∧ bits .and .u64 ((m : Int) / 2 ^ d) 1 = ((m / 2 ^ d % 2 : Nat) : Int) := by
  have e4 : (m : Int) / 2 ^ d = ((m / 2 ^ d : Nat) : Int) := by rw [two_pow_int]; simp
  have hk : m / 2 ^ d ≤ m / 2 := Nat.div_le_div_left (by have := Nat.pow_le_pow_right (n := 2) (by omega) h1; omega) (by omega)
  have hd := Nat.div_add_mod m (2 ^ d)
  rw [Nat.mul_comm] at hd
  refine ⟨?_, ?_, e4, ?_, ?_⟩
  · rw [e4, two_pow_int, ← Int.natCast_mul, uwrap _ (by omega), IntKind.wrap_u64]
    generalize m / 2 ^ d * 2 ^ d = z at hd
    omega
  · rw [two_pow_int, uwrap _ (pow_lt64 _ (by omega))]
  · rw [e4, show ((m / 2 ^ d : Nat) : Int) + 1 = ((m / 2 ^ d + 1 : Nat) : Int) from rfl, uwrap _ (by omega)]
  · rw [e4]
    have := u64_and_nat (m / 2 ^ d) 1 (by omega) (by omega)
    rw [nat_mask1] at this
    exact this

theorem off_up (m d : Nat) (s : Bool) (h1 : 1 ≤ d) (h : 2 ^ (d - 1) < m % 2 ^ d ∨ (m % 2 ^ d = 2 ^ (d - 1) ∧ (s = true ∨ m / 2 ^ d % 2 = 1))) : Fl.off m s d = m / 2 ^ d + 1 := by
  have e : 2 ^ d = 2 * 2 ^ (d - 1) := by rw [Nat.mul_comm, ← Nat.pow_succ]; congr 1; omega
  unfold Fl.off
  rw [if_pos]
  rcases h with h | ⟨h, h'⟩
  · left; omega
  · right; exact ⟨by omega, h'⟩
theorem off_stay (m d : Nat) (s : Bool) (h1 : 1 ≤ d) (h : m % 2 ^ d < 2 ^ (d - 1) ∨ (m % 2 ^ d = 2 ^ (d - 1) ∧ ¬ s = true ∧ ¬ m / 2 ^ d % 2 = 1)) : Fl.off m s d = m / 2 ^ d := by
  have e : 2 ^ d = 2 * 2 ^ (d - 1) := by rw [Nat.mul_comm, ← Nat.pow_succ]; congr 1; omega
  unfold Fl.off
  rw [if_neg]
  · rfl
  · rintro (k | ⟨k, k'⟩)
    · rcases h with h | ⟨h, _⟩ <;> omega
    · rcases h with h | ⟨h, q1, q2⟩
      · omega
      · rcases k' with k' | k'
        · exact q1 k'
        · exact q2 k'

set_option maxHeartbeats 1000000 in
theorem roundOff_calls (m : Nat) (s : Bool) (d : Nat) (hm : m < 18446744073709551616) (h1 : 1 ≤ d) (h2 : d ≤ 64) (w : World) : Calls Tryd.prog 35 #[.int .u64 (m : Int), .bool s, .int .i64 (d : Int)] w fun e w' => e = .returned (.int .u64 (Fl.off m s d : Int)) ∧ ∃ n, w' = w.drewN n := by
  have g1 : (1 : Int) ≤ (d : Int) := by omega
  have g2 : (d : Int) ≤ 64 := by omega
  have F := hid_of (off_facts m d hm h1 h2)
  go_enter Tryd.func35, Tryd.ntmps35
  go_wp2
  go_quiet (fail)
  go_wp2
  all_goals (go_ret; refine ⟨ret_int ?_, _, rfl⟩)
  all_goals obtain ⟨e1, e2, e3, e4, e5⟩ := F.out
  all_goals clear F
  all_goals simp only [e1, e2, e4, e5, beq_iff_eq, beq_eq_false_iff_ne, ne_eq] at *
  · rw [off_up m d s h1 (.inr ⟨by omega, .inl (by assumption)⟩)]
  · rw [off_up m d s h1 (.inr ⟨by omega, .inr (by omega)⟩)]
  · rw [off_stay m d s h1 (.inr ⟨by omega, by assumption, by omega⟩), e3]
  · rw [off_stay m d s h1 (.inl (by omega)), e3]
  · rw [off_up m d s h1 (.inl (by omega))]


theorem lz64_nat (x sh : Nat) (hx : x < 18446744073709551616) (h : blen x + sh = 64) (w : World) : Calls Tryd.prog 24 #[.int .u64 (x : Int)] w fun e w' => e = .returned (.int .i64 (sh : Int)) ∧ w = w' := by
  have := lz64_calls x hx w
  rw [show 64 - (blen x : Int) = (sh : Int) by omega] at this
  exact this

/-- The digits with the highest bit set. -/
theorem shift_facts (m : Nat) (hm : m ≠ 0) (hx : m < 18446744073709551616) : ∃ sh : Nat, blen m + sh = 64 ∧ sh ≤ 63 ∧ m.log2 + sh = 63 ∧ 9223372036854775808 ≤ m * 2 ^ sh ∧ m * 2 ^ sh < 18446744073709551616 := by
  have hb := blen_le m hx
  have e : blen m = m.log2 + 1 := by unfold blen; rw [if_neg hm]
  refine ⟨64 - blen m, by omega, by omega, by omega, ?_, ?_⟩
  · have h1 := Fl.log2_lo hm
    calc 9223372036854775808 = 2 ^ m.log2 * 2 ^ (64 - blen m) := by rw [← Nat.pow_add, show m.log2 + (64 - blen m) = 63 by omega]
      _ ≤ m * 2 ^ (64 - blen m) := Nat.mul_le_mul_right _ h1
  · have h1 := Fl.log2_hi m
    calc m * 2 ^ (64 - blen m) < 2 ^ (m.log2 + 1) * 2 ^ (64 - blen m) := Nat.mul_lt_mul_of_pos_right h1 (Nat.two_pow_pos _)
      _ = 18446744073709551616 := by rw [← Nat.pow_add, show m.log2 + 1 + (64 - blen m) = 64 by omega]

theorem off_gone (M : Nat) (s : Bool) (d : Nat) (hM : M < 18446744073709551616) (hd : 65 ≤ d) : Fl.off M s d = 0 := by
  have h : 2 ^ 65 ≤ 2 ^ d := Nat.pow_le_pow_right (by omega) hd
  have h1 : M / 2 ^ d = 0 := Nat.div_eq_of_lt (by omega)
  have h2 : M % 2 ^ d = M := Nat.mod_eq_of_lt (by omega)
  unfold Fl.off
  rw [h1, h2, if_neg (by omega)]

theorem off_le (M : Nat) (s : Bool) (d : Nat) (hM : M < 18446744073709551616) (hd : 11 ≤ d) : Fl.off M s d ≤ 9007199254740992 := by
  have h : 2 ^ 11 ≤ 2 ^ d := Nat.pow_le_pow_right (by omega) hd
  have h1 : M / 2 ^ d ≤ M / 2 ^ 11 := Nat.div_le_div_left h (by decide)
  unfold Fl.off
  split <;> omega

/-- What the function comes to. -/
theorem near_norm (m sh D : Nat) (s : Bool) (e : Int) (hm : m ≠ 0) (hl : m.log2 + sh = 63) (hs : s = true → e < Fl.lastOf m e) (hD : (D : Int) = max 11 (-1074 - (e - sh))) :
    Fl.near m s e = min ((e - sh + D + 1074).toNat * 4503599627370496 + Fl.off (m * 2 ^ sh) s D) 9218868437227405312 := by
  rw [← Fl.near_shift m sh s e hm hs]
  have hlog : (m * 2 ^ sh).log2 = 63 := by
    refine Fl.log2_unique _ _ ?_ ?_
    · have h1 := Fl.log2_lo hm
      calc 2 ^ 63 = 2 ^ m.log2 * 2 ^ sh := by rw [← Nat.pow_add, hl]
        _ ≤ m * 2 ^ sh := Nat.mul_le_mul_right _ h1
    · have h1 := Fl.log2_hi m
      calc m * 2 ^ sh < 2 ^ (m.log2 + 1) * 2 ^ sh := Nat.mul_lt_mul_of_pos_right h1 (Nat.two_pow_pos _)
        _ = 2 ^ (63 + 1) := by rw [← Nat.pow_add, show m.log2 + 1 + sh = 63 + 1 by omega]
  have hlast : Fl.lastOf (m * 2 ^ sh) (e - sh) = e - sh + D := by
    unfold Fl.lastOf
    rw [hlog]
    omega
  unfold Fl.near Fl.top
  rw [hlast, if_neg (by omega)]
  have : (e - (sh : Int) + D - (e - sh)).toNat = D := by omega
  rw [this]

theorem or_top (P : Nat) (h : P < 9223372036854775808) : bits .or .u64 (P : Int) 9223372036854775808 = ((P + 9223372036854775808 : Nat) : Int) := by
  have h1 := u64_or_nat P 9223372036854775808 (by omega) (by omega)
  rw [Nat.or_comm, nat_join 63 9223372036854775808 P (by decide) h, Nat.add_comm] at h1
  exact h1

/-- The word of a sign and a rung that is cut at infinity. -/
theorem word_min (neg : Bool) (P : Nat) : Ieee.double.word neg (min P 9218868437227405312) = if neg then 9223372036854775808 + min P 9218868437227405312 else min P 9218868437227405312 := rfl

theorem or_inf : bits .or .u64 9218868437227405312 9223372036854775808 = 18442240474082181120 := by decide
theorem or_nil : bits .or .u64 0 9223372036854775808 = 9223372036854775808 := by decide

theorem frombits_lit (x : Nat) (z : Int) (hz : z = (x : Int)) (w : World) : (callFunc 20 #[.int .u64 z]).run Tryd.prog w = .ok (.value (.float .f64 x)) w := by
  subst hz
  exact frombits_run x w

theorem ret_float {a b : Nat} (h : a = b) : Ending.returned (.float .f64 a) = .returned (.float .f64 b) := by rw [h]

set_option maxHeartbeats 4000000 in
theorem nearest_calls (neg : Bool) (m : Nat) (s : Bool) (e : Int) (hm : m ≠ 0) (hx : m < 18446744073709551616) (hs : s = true → e < Fl.lastOf m e) (e1 : -4000 ≤ e) (e2 : e ≤ 2048) (w : World) :
    Calls Tryd.prog 26 #[.bool neg, .int .u64 (m : Int), .bool s, .int .i64 e] w fun r w' => r = .returned (.float .f64 (Ieee.double.word neg (Fl.near m s e))) ∧ ∃ n, w' = w.drewN n := by
  obtain ⟨sh, s1, s2, s3, s4, s5⟩ := shift_facts m hm hx
  obtain ⟨D, hD⟩ : ∃ D : Nat, (D : Int) = max 11 (-1074 - (e - sh)) := ⟨(max 11 (-1074 - (e - sh))).toNat, by omega⟩
  rw [near_norm m sh D s e hm s3 hs hD, word_min]
  have C := hid_of (fun w => lz64_nat m sh hx s1 w)
  have hw : IntKind.u64.wrap ((m : Int) * 2 ^ sh) = ((m * 2 ^ sh : Nat) : Int) := by
    rw [two_pow_int, ← Int.natCast_mul]; exact uwrap _ s5
  clear s1 hs s3
  generalize m * 2 ^ sh = M at s4 s5 hw
  have n1 : ∀ w : World, (callFunc 20 #[.int .u64 18442240474082181120]).run Tryd.prog w = .ok (.value (.float .f64 18442240474082181120)) w := fun w => frombits_lit 18442240474082181120 _ rfl w
  have n2 : ∀ w : World, (callFunc 20 #[.int .u64 9218868437227405312]).run Tryd.prog w = .ok (.value (.float .f64 9218868437227405312)) w := fun w => frombits_lit 9218868437227405312 _ rfl w
  have n3 : ∀ w : World, (callFunc 20 #[.int .u64 9223372036854775808]).run Tryd.prog w = .ok (.value (.float .f64 9223372036854775808)) w := fun w => frombits_lit 9223372036854775808 _ rfl w
  have n4 : ∀ w : World, (callFunc 20 #[.int .u64 0]).run Tryd.prog w = .ok (.value (.float .f64 0)) w := fun w => frombits_lit 0 _ rfl w
  have o1 := or_inf
  have o2 := or_nil
  by_cases c1 : 11 < -1074 - (e - (sh : Int))
  · have hx' : -1074 - (e - (sh : Int)) = (D : Int) := by omega
    have hy : e - (sh : Int) + (D : Int) + 1074 = 0 := by omega
    have hL : (e - (sh : Int) + (D : Int) + 1074).toNat = 0 := by omega
    rw [hL, Nat.zero_mul, Nat.zero_add]
    clear hL
    have d1 : (11 : Int) < (D : Int) := by omega
    by_cases c2 : D ≤ 64
    · have d2 : (D : Int) ≤ 64 := by omega
      have R := hid_of (fun w => roundOff_calls M s D s5 (by omega) c2 w)
      have hoff := off_le M s D s5 (by omega)
      have hmin : min (Fl.off M s D) 9218868437227405312 = Fl.off M s D := by omega
      rw [hmin]
      clear hmin hD c1 e1 e2
      generalize Fl.off M s D = P at R hoff
      have p1 := or_top P (by omega)
      have p2 := fun w => frombits_lit P (P : Int) rfl w
      have p3 := fun w => frombits_lit (P + 9223372036854775808) ((P : Int) + 9223372036854775808) rfl w
      have p4 : ¬ (9218868437227405312 : Int) < (P : Int) := by omega
      clear c2
      cases neg <;>
      · go_enter Tryd.func26, Tryd.ntmps26
        go_wp2_with (first | (go_at_call 24; refine (C.out _).mono ?_; rintro e w' ⟨rfl, rfl⟩) | (go_at_call 35; refine (R.out _).mono ?_; rintro e w' ⟨rfl, n, rfl⟩))
        go_ret
        refine ⟨ret_float ?_, _, rfl⟩
        first | exact Nat.add_comm _ _ | simp
    · have hoff := off_gone M s D s5 (by omega)
      rw [hoff]
      have d2 : ¬ (D : Int) ≤ 64 := by omega
      have d3 : (D : Int) ≤ 5000 := by omega
      clear hoff c2 hD c1
      cases neg <;>
      · go_enter Tryd.func26, Tryd.ntmps26
        go_wp2_with (go_at_call 24; refine (C.out _).mono ?_; rintro e w' ⟨rfl, rfl⟩)
        go_ret
        exact ⟨rfl, 0, rfl⟩
  · have hD' : D = 11 := by omega
    subst hD'
    have R := hid_of (fun w => roundOff_calls M s 11 s5 (by omega) (by omega) w)
    have hoff := off_le M s 11 s5 (by omega)
    generalize Fl.off M s 11 = Z at R hoff
    obtain ⟨P, hP⟩ : ∃ P : Nat, (e - (sh : Int) + 11 + 1074).toNat * 4503599627370496 + Z = P := ⟨_, rfl⟩
    have hW : IntKind.u64.wrap ((e - (sh : Int) + 11 + 1074) * 4503599627370496 + (Z : Int)) = (P : Int) := by rw [IntKind.wrap_u64]; omega
    have hP64 : P < 18446744073709551616 := by omega
    have hg : ((11 : Nat) : Int) = 11 := rfl
    rw [hg, hP]
    clear hP hg hD
    by_cases c3 : P ≤ 9218868437227405312
    · have p1 := or_top P (by omega)
      have p2 := fun w => frombits_lit P (P : Int) rfl w
      have p3 := fun w => frombits_lit (P + 9223372036854775808) ((P : Int) + 9223372036854775808) rfl w
      have p4 : ¬ (9218868437227405312 : Int) < (P : Int) := by omega
      have hmin : min P 9218868437227405312 = P := by omega
      rw [hmin]
      clear hmin
      cases neg <;>
      · go_enter Tryd.func26, Tryd.ntmps26
        go_wp2_with (first | (go_at_call 24; refine (C.out _).mono ?_; rintro e w' ⟨rfl, rfl⟩) | (go_at_call 35; refine (R.out _).mono ?_; rintro e w' ⟨rfl, n, rfl⟩))
        go_ret
        refine ⟨ret_float ?_, _, rfl⟩
        first | exact Nat.add_comm _ _ | simp
    · have p4 : (9218868437227405312 : Int) < (P : Int) := by omega
      have hmin : min P 9218868437227405312 = 9218868437227405312 := by omega
      rw [hmin]
      clear hmin
      cases neg <;>
      · go_enter Tryd.func26, Tryd.ntmps26
        go_wp2_with (first | (go_at_call 24; refine (C.out _).mono ?_; rintro e w' ⟨rfl, rfl⟩) | (go_at_call 35; refine (R.out _).mono ?_; rintro e w' ⟨rfl, n, rfl⟩))
        go_ret
        refine ⟨ret_float ?_, _, rfl⟩
        simp
end Go.Proofs.YtnjnmgpjohfjiabDoor
