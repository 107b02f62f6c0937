/- Back and Quotient, in the document. -/
import Derived.Test.YtikmollocchfnabDoorNearW
import Derived.Test.YtikmollocchfnabDoorQuot
import Derived.Test.YtikmollocchfnabDoorBackP
namespace Go.Proofs.YtikmollocchfnabDoor
open Go.RowKit

set_option maxHeartbeats 1000000 in
theorem size_calls (a : Int) (a1 : -9223372036854775808 ≤ a) (a2 : a ≤ 9223372036854775807) (w : World) : Calls Tryd.prog 27 #[.int .i64 a] w fun e w' => e = .returned (.int .u64 (a.natAbs : Int)) ∧ w = w' := by
  by_cases h : a < 0
  · go_enter Tryd.func27, Tryd.ntmps27
    go_wp2
    go_ret
    refine ⟨ret_int ?_, rfl⟩
    omega
  · go_enter Tryd.func27, Tryd.ntmps27
    go_wp2
    go_ret
    refine ⟨ret_int ?_, rfl⟩
    omega

theorem back_same (n e : Int) (n1 : -9223372036854775808 ≤ n) (n2 : n ≤ 9223372036854775807) : nearWord (decide (n < 0)) n.natAbs e false = backWord n e := by
  unfold nearWord backWord
  by_cases h : n = 0
  · rw [if_pos (by omega), if_pos h]
  · rw [if_neg (by omega), if_neg h]
    refine congrArg (Ieee.double.word (decide (n < 0))) ?_
    by_cases c1 : e < -1300
    · rw [near_low _ _ _ (by omega) (by omega) c1, near_low _ _ _ (by omega) (by omega) (by omega)]
    · by_cases c2 : 1100 < e
      · rw [near_high _ _ _ c2, near_high _ _ _ (by omega)]
      · rw [show max (-2048) (min e 2048) = e by omega]

theorem backR_calls (n e : Int) (n1 : -9223372036854775808 ≤ n) (n2 : n ≤ 9223372036854775807) (w : World) : Calls Tryd.prog 15 #[.int .i64 n, .int .i64 e] w fun v w' => v = .returned (.int .u64 ((backWord n e : Nat) : Int)) ∧ w = w' := by
  rw [← back_same n e n1 n2]
  have C1 := hid_of (fun w => size_calls n n1 n2 w)
  have C2 := hid_of (fun w => nearR_calls (decide (n < 0)) n.natAbs e false (by omega) w)
  generalize n.natAbs = A at C1 C2
  go_enter Tryd.func15, Tryd.ntmps15
  go_wp2_with (first | (go_at_call 27; refine (C1.out _).mono ?_; rintro v w' ⟨rfl, rfl⟩) | (go_at_call 28; refine (C2.out _).mono ?_; rintro v w' ⟨rfl, rfl⟩))
  go_ret
  exact ⟨rfl, rfl⟩

/-- A step of the division, digit by digit. -/
theorem quot_step (a b k q r : Nat) (h : q * b + r = a * 2 ^ k) (hr : r < b) :
    (b - r ≤ r → (q * 2 + 1) * b + (r - (b - r)) = a * 2 ^ (k + 1) ∧ r - (b - r) < b) ∧ (¬ b - r ≤ r → q * 2 * b + (r + r) = a * 2 ^ (k + 1) ∧ r + r < b) := by
  have e1 : a * 2 ^ (k + 1) = 2 * (q * b) + 2 * r := by rw [Nat.pow_succ, ← Nat.mul_assoc, ← h]; omega
  have e2 : q * 2 * b = 2 * (q * b) := by rw [Nat.mul_comm q 2, Nat.mul_assoc]
  have e3 : (q * 2 + 1) * b = 2 * (q * b) + b := by rw [Nat.add_mul, e2, Nat.one_mul]
  rw [e1, e2, e3]
  generalize q * b = z
  constructor
  · intro c; omega
  · intro c; omega

structure QLoop (a b k q r : Nat) : Prop where
  sum : q * b + r = a * 2 ^ k
  rem : r < b
  few : k ≤ 130
  top : q < 288230376151711744 ∨ k = 0

set_option maxRecDepth 100000 in
set_option maxHeartbeats 4000000 in
theorem quotR_calls (n d : Int) (n1 : -9223372036854775808 ≤ n) (n2 : n ≤ 9223372036854775807) (d1 : -9223372036854775808 ≤ d) (d2 : d ≤ 9223372036854775807) (w : World) :
    Calls Tryd.prog 12 #[.int .i64 n, .int .i64 d] w fun e w' => e = .returned (.tuple #[.int .u64 ((quoWord n d : Nat) : Int), .int .i64 (quoCode d)]) ∧ w = w' := by
  by_cases hd : d = 0
  · have e1 : quoWord n d = 0 := by unfold quoWord; rw [if_pos (.inl hd)]
    have e2 : quoCode d = 11 := by unfold quoCode; rw [if_pos hd]
    rw [e1, e2]
    have q1 : (d == 0) = true := by simp [hd]
    clear hd e1 e2
    go_enter Tryd.func12, Tryd.ntmps12
    go_wp2
    go_ret2
    exact ⟨rfl, rfl⟩
  have q1 : (d == 0) = false := by simp [hd]
  have e2 : quoCode d = 0 := by unfold quoCode; rw [if_neg hd]
  rw [e2]
  clear e2
  have C1 := hid_of (fun w => size_calls n n1 n2 w)
  have C2 := hid_of (fun w => size_calls d d1 d2 w)
  by_cases hn : n = 0
  · have e1 : quoWord n d = 0 := by unfold quoWord; rw [if_pos (.inr hn)]
    rw [e1]
    have hA0 : n.natAbs = 0 := by omega
    rw [hA0] at C1
    clear hn e1 hA0
    generalize d.natAbs = B at C2
    go_enter Tryd.func12, Tryd.ntmps12
    go_wp2_with (first | (go_at_call_of 27 (Value.int IntKind.i64 n); refine (C1.out _).mono ?_; rintro v w' ⟨rfl, rfl⟩) | (go_at_call 27; refine (C2.out _).mono ?_; rintro v w' ⟨rfl, rfl⟩))
    go_ret2
    exact ⟨rfl, rfl⟩
  have e1 : quoWord n d = Ieee.double.word (decide (n < 0) != decide (d < 0)) (Fl.quo n.natAbs d.natAbs) := by unfold quoWord; rw [if_neg (by omega)]
  rw [e1]
  clear e1
  have A0 : 0 < n.natAbs := by omega
  have B0 : 0 < d.natAbs := by omega
  have A1 : n.natAbs ≤ 9223372036854775808 := by omega
  have B1 : d.natAbs ≤ 9223372036854775808 := by omega
  generalize n.natAbs = A at C1 A0 A1
  generalize d.natAbs = B at C2 B0 B1
  have q2 : ((A : Int) == 0) = false := by simp; omega
  have md := Nat.div_add_mod A B
  have ml := Nat.mod_lt A B0
  have hdle : A / B ≤ A := Nat.div_le_self _ _
  obtain ⟨q, hq⟩ := nat_ex' (A / B)
  obtain ⟨r, hr⟩ := nat_ex' (A % B)
  rw [hq, hr, Nat.mul_comm] at md
  rw [hr] at ml
  rw [hq] at hdle
  have dv : (A : Int) / (B : Int) = (q : Int) := by rw [← hq]; simp
  have dm : (A : Int) % (B : Int) = (r : Int) := by rw [← hr]; simp
  have L0 : QLoop A B 0 q r := ⟨by rw [Nat.pow_zero, Nat.mul_one]; exact md, ml, by omega, .inr rfl⟩
  have HL0 := hid_of L0
  clear hq hr md L0
  go_enter Tryd.func12, Tryd.ntmps12
  go_wp2_with (first | (go_at_call_of 27 (Value.int IntKind.i64 n); refine (C1.out _).mono ?_; rintro v w' ⟨rfl, rfl⟩) | (go_at_call 27; refine (C2.out _).mono ?_; rintro v w' ⟨rfl, rfl⟩))
  go_loop [8, 9, 10] (fun x y z => ∃ k q r : Nat, QLoop A B k q r ∧ x = .int .u64 (q : Int) ∧ y = .int .u64 (r : Int) ∧ z = .int .i64 (-(k : Int))) (fun x y _ => 144115188075855872 * B - ((intOf x).toNat * B + (intOf y).toNat))
  case atStart => exact ⟨0, q, r, HL0.out, rfl, by first | rfl | rw [dm], rfl⟩
  case round =>
    clear HL0 dv dm hdle
    obtain ⟨k, q, r, Q, rfl, rfl, rfl⟩ := hrel
    have hrb := Q.rem
    have hfew := Q.few
    have HQ := hid_of Q
    by_cases hgo : (q : Int) < 144115188075855872
    · obtain ⟨s1, s2⟩ := quot_step A B k q r Q.sum Q.rem
      have hk120 : k < 120 := by
        have h1 : A * 2 ^ k < 144115188075855872 * B := by
          rw [← Q.sum]
          have : q * B ≤ 144115188075855871 * B := Nat.mul_le_mul_right _ (by omega)
          omega
        by_cases c : k < 120
        · exact c
        · have h2 : 2 ^ 120 ≤ 2 ^ k := Nat.pow_le_pow_right (by omega) (by omega)
          have h3 : 1 * 2 ^ k ≤ A * 2 ^ k := Nat.mul_le_mul_right _ A0
          have h4 : 144115188075855872 * B ≤ 144115188075855872 * 9223372036854775808 := Nat.mul_le_mul_left _ B1
          have h5 : 144115188075855872 * 9223372036854775808 = 2 ^ 120 := by decide
          omega
      have hdec : ∀ q' r' : Nat, q' * B + r' = A * 2 ^ (k + 1) → 144115188075855872 * B - (q' * B + r') < 144115188075855872 * B - (q * B + r) := fun q' r' h => by
        rw [h, Q.sum, Nat.pow_succ]
        have h1 : A * 2 ^ k < 144115188075855872 * B := by
          rw [← Q.sum]
          have : q * B ≤ 144115188075855871 * B := Nat.mul_le_mul_right _ (by omega)
          omega
        have h2 : 0 < A * 2 ^ k := Nat.mul_pos A0 (Nat.two_pow_pos k)
        rw [← Nat.mul_assoc]
        omega
      have HDEC := hid_of hdec
      clear hdec Q HQ
      by_cases hc : (B : Int) - (r : Int) ≤ (r : Int)
      · obtain ⟨t1, t2⟩ := s1 (by omega)
        have HT := hid_of t1
        clear s1 s2 t1
        go_wp2
        go_round
        case rel => exact ⟨k + 1, q * 2 + 1, r - (B - r), ⟨HT.out, t2, by omega, .inl (by omega)⟩, by go_num, by go_num, by go_num⟩
        case measure =>
          have := HDEC.out _ _ HT.out
          simp only [intOf]
          rw [show ((q : Int) * 2 + 1).toNat = q * 2 + 1 by omega, show ((r : Int) - ((B : Int) - (r : Int))).toNat = r - (B - r) by omega, Int.toNat_natCast, Int.toNat_natCast]
          exact this
      · obtain ⟨t1, t2⟩ := s2 (by omega)
        have HT := hid_of t1
        clear s1 s2 t1
        go_wp2
        go_round
        case rel => exact ⟨k + 1, q * 2, r + r, ⟨HT.out, t2, by omega, .inl (by omega)⟩, by go_num, by go_num, by go_num⟩
        case measure =>
          have := HDEC.out _ _ HT.out
          simp only [intOf]
          rw [show ((q : Int) * 2).toNat = q * 2 by omega, show ((r : Int) + (r : Int)).toNat = r + r by omega, Int.toNat_natCast, Int.toNat_natCast]
          exact this
    · have hp : A * 2 ^ k / B = q ∧ A * 2 ^ k % B = r := by
        rw [← Q.sum, Nat.mul_comm q B]
        exact ⟨by rw [Nat.mul_add_div B0, Nat.div_eq_of_lt hrb, Nat.add_zero], by rw [Nat.mul_add_mod, Nat.mod_eq_of_lt hrb]⟩
      have hquo : Fl.near q (r != 0) (-(k : Int)) = Fl.quo A B := by
        have := Fl.quo_eq A B (A * 2 ^ k) B (-(k : Int)) A0 B0 B1 B0 (by rw [hp.1]; omega) (by
          obtain ⟨x, hx⟩ : ∃ x, (-(k : Int) + 120).toNat = x := ⟨_, rfl⟩
          obtain ⟨y, hy⟩ : ∃ y, (-120 - -(k : Int)).toNat = y := ⟨_, rfl⟩
          rw [hx, hy]
          have hxy : k + x = 120 + y := by omega
          calc A * 2 ^ k * B * 2 ^ x = A * B * (2 ^ k * 2 ^ x) := by ac_rfl
            _ = A * B * (2 ^ 120 * 2 ^ y) := by rw [← Nat.pow_add, hxy, Nat.pow_add]
            _ = A * 2 ^ 120 * B * 2 ^ y := by ac_rfl)
        rw [hp.1, hp.2] at this
        exact this
      have hq64 : q < 18446744073709551616 := by
        rcases Q.top with h | h
        · omega
        · have h0 := Q.sum
          rw [h, Nat.pow_zero, Nat.mul_one] at h0
          have : q * 1 ≤ q * B := Nat.mul_le_mul_left _ B0
          omega
      have hb0 : (r != 0) = decide (0 < r) := by
        by_cases c : r = 0
        · subst c; rfl
        · have h1 : (r != 0) = true := by simp [c]
          rw [h1, decide_eq_true (by omega)]
      rw [hb0] at hquo
      have NC := hid_of (fun neg w => nearR_calls neg q (-(k : Int)) (decide (0 < r)) hq64 w)
      have hnw : ∀ neg, nearWord neg q (-(k : Int)) (decide (0 < r)) = Ieee.double.word neg (Fl.quo A B) := fun neg => by
        unfold nearWord
        rw [if_neg (by omega), hquo]
      have HNW := hid_of hnw
      clear hp hquo hnw Q HQ hb0
      go_wp2_with fail
      refine (NC.out _ _).mono ?_
      rintro v w' ⟨rfl, rfl⟩
      rw [HNW.out]
      go_wp2
      go_ret2
      exact ⟨rfl, rfl⟩
end Go.Proofs.YtikmollocchfnabDoor
