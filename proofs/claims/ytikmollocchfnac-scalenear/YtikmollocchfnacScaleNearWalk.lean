/- ScaleNear: the walk of the law. -/
import Derived.Test.YtikmollocchfnacQuot
namespace Go.Proofs.Ytikmollocchfnac
open Go.RowKit

theorem quo_fourth : quoWord 1 4 = 4598175219545276416 := by decide +kernel
theorem code_fourth : quoCode 4 = 0 := by decide

theorem feq_same (x : Nat) (h : ¬ Fl.nan x) : (FloatKind.f64.format.order x x == some .eq) = true := by
  have := Fl.nan_iff x
  rw [decide_eq_true h] at this
  exact this

theorem int_word (n : Int) (h : n ≠ 0) : floatOfInt .f64 n = Ieee.double.word (decide (n < 0)) (Fl.near n.natAbs false 0) := by
  show Ieee.double.nearest (decide (n < 0)) n.natAbs 0 = _
  exact Fl.nearest_eq _ _ _ (by omega)

theorem quoWord_num (n d : Int) : ¬ Fl.nan (quoWord n d) := by
  unfold quoWord
  split
  · decide
  · exact (Fl.word_num _ _ (Fl.near_le _ _ _)).1

/-- A whole quotient is the whole number's float64. -/
theorem whole_word (n d : Int) (hd : d ≠ 0) (h : n.tmod d = 0) : quoWord n d = floatOfInt .f64 (n.tdiv d) := by
  by_cases hn : n = 0
  · subst hn
    have e : quoWord 0 d = 0 := by unfold quoWord; rw [if_pos (.inr rfl)]
    rw [e, Int.zero_tdiv]
    decide
  · have hk : n = d * n.tdiv d := by have := Int.mul_tdiv_add_tmod n d; rw [h] at this; omega
    generalize n.tdiv d = k at hk
    have hk0 : k ≠ 0 := by rintro rfl; rw [Int.mul_zero] at hk; exact hn hk
    rw [int_word k hk0]
    unfold quoWord
    rw [if_neg (by omega)]
    have habs : n.natAbs = k.natAbs * d.natAbs := by rw [hk, Int.natAbs_mul, Nat.mul_comm]
    rw [habs, Fl.quo_whole _ _ (by omega) (by omega)]
    congr 1
    have e1 : (n < 0) ↔ ((d < 0 ∧ 0 < k) ∨ (0 < d ∧ k < 0)) := by
      rw [hk]
      constructor
      · intro hlt
        by_cases c1 : d < 0
        · left; refine ⟨c1, ?_⟩
          by_cases c2 : 0 < k
          · exact c2
          · have := Int.mul_nonneg_of_nonpos_of_nonpos (show d ≤ 0 by omega) (show k ≤ 0 by omega); omega
        · right; refine ⟨by omega, ?_⟩
          by_cases c2 : k < 0
          · exact c2
          · have := Int.mul_nonneg (show 0 ≤ d by omega) (show 0 ≤ k by omega); omega
      · rintro (⟨a, b⟩ | ⟨a, b⟩)
        · exact Int.mul_neg_of_neg_of_pos a b
        · exact Int.mul_neg_of_pos_of_neg a b
    by_cases c1 : n < 0
    · rw [decide_eq_true c1]
      rcases e1.1 c1 with ⟨a, b⟩ | ⟨a, b⟩
      · rw [decide_eq_true a, decide_eq_false (show ¬ k < 0 by omega)]; rfl
      · rw [decide_eq_false (show ¬ d < 0 by omega), decide_eq_true b]; rfl
    · rw [decide_eq_false c1]
      have c3 := mt e1.2 c1
      by_cases c2 : d < 0
      · rw [decide_eq_true c2, decide_eq_true (show k < 0 by omega)]; rfl
      · rw [decide_eq_false c2, decide_eq_false (show ¬ k < 0 by omega)]; rfl

theorem tdiv_small (n d : Int) (n1 : -2147483648 ≤ n) (n2 : n ≤ 2147483647) : wrap64 (n.tdiv d) = n.tdiv d := by
  have h : (n.tdiv d).natAbs ≤ n.natAbs := by rw [Int.natAbs_tdiv]; exact Nat.div_le_self _ _
  unfold wrap64
  omega

/-- The language's quotient. -/
theorem lang_word (n d : Int) (hn : n ≠ 0) (hd : d ≠ 0) (n1 : -2147483648 ≤ n) (n2 : n ≤ 2147483647) (d1 : -2147483648 ≤ d) (d2 : d ≤ 2147483647) : floatBits .quo .f64 (floatOfInt .f64 n) (floatOfInt .f64 d) = some (quoWord n d) := by
  rw [int_word n hn, int_word d hd]
  show Ieee.double.div _ _ = _
  rw [Fl.div_eq _ _ _ _ (by omega) (by omega) (by omega) (by omega)]
  unfold quoWord
  rw [if_neg (by omega)]

theorem sign_word (n d : Int) (hn : n ≠ 0) (hd : d ≠ 0) (d1 : -2147483648 ≤ d) (d2 : d ≤ 2147483647) : (FloatKind.f64.format.order (quoWord n d) 0 == some .lt) = (decide (n < 0) != decide (d < 0)) := by
  have h := flt (quoWord n d) 0 (quoWord_num n d) not_nan_zero
  rw [h, sr_zero]
  unfold quoWord
  rw [if_neg (by omega), (Fl.word_num (decide (n < 0) != decide (d < 0)) (Fl.quo n.natAbs d.natAbs) (Fl.near_le _ _ _)).2]
  have hp := Fl.quo_pos n.natAbs d.natAbs (by omega) (by omega) (by omega)
  generalize (decide (n < 0) != decide (d < 0)) = b
  unfold Fl.sgn
  cases b
  · rw [if_neg (by decide), decide_eq_false (by omega)]
  · rw [if_pos rfl, decide_eq_true (by omega)]

set_option maxRecDepth 100000 in
set_option linter.unusedSimpArgs false in
set_option maxHeartbeats 2000000 in
theorem scaleNearWalk (n d : Int) (n1 : -2147483648 ≤ n) (n2 : n ≤ 2147483647) (d1 : -2147483648 ≤ d) (d2 : d ≤ 2147483647) (w : World) :
    Calls Try.prog 4 #[.int .i32 n, .int .i32 d] w fun e w' => e = .returned (.bool true) ∧ Kept w w' := by
  have C0 : Hid (∀ w : World, Calls Try.prog 12 #[.int .i64 1, .int .i64 4] w fun e w' => e = .returned (.tuple #[.float .f64 4598175219545276416, .int .i64 0]) ∧ Kept w w') := fun w => by
    have := quotient_calls 1 4 (by omega) (by omega) (by omega) (by omega) w
    rw [quo_fourth, code_fourth] at this
    exact this
  have C1 := hid_of (fun w => quotient_calls n d (by omega) (by omega) (by omega) (by omega) w)
  have z0 : (FloatKind.f64.format.order 4598175219545276416 4598175219545276416 != some .eq) = false := by decide +kernel
  have z1 : (FloatKind.f64.format.order 0 0 == some .eq) = true := by decide +kernel
  by_cases hd : d = 0
  · have e1 : quoWord n d = 0 := by unfold quoWord; rw [if_pos (.inl hd)]
    have e2 : quoCode d = 11 := by unfold quoCode; rw [if_pos hd]
    rw [e1, e2] at C1
    have q1 : (d == 0) = true := by simp [hd]
    clear e1 e2 hd
    go_enter Try.func4, Try.ntmps4
    go_wp2_with fail
    refine (C0.out _).mono ?_
    rintro e wa ⟨rfl, K1⟩
    go_wp2_with fail
    refine (C1.out _).mono ?_
    rintro e wb ⟨rfl, K2⟩
    go_wp2
    go_ret
    exact ⟨rfl, K1.trans K2⟩
  have q1 : (d == 0) = false := by simp [hd]
  have e2 : quoCode d = 0 := by unfold quoCode; rw [if_neg hd]
  rw [e2] at C1
  clear e2
  by_cases hz : n.tmod d = 0
  · have f1 : (FloatKind.f64.format.order (quoWord n d) (floatOfInt .f64 (wrap64 (n.tdiv d))) == some .eq) = true := by rw [tdiv_small n d n1 n2, ← whole_word n d hd hz]; exact feq_same _ (quoWord_num n d)
    have q2 : (n.tmod d == 0) = true := by simp [hz]
    clear hz
    generalize quoWord n d = X at C1 f1
    go_enter Try.func4, Try.ntmps4
    go_wp2_with fail
    refine (C0.out _).mono ?_
    rintro e wa ⟨rfl, K1⟩
    go_wp2_with fail
    refine (C1.out _).mono ?_
    rintro e wb ⟨rfl, K2⟩
    go_wp2
    go_ret
    exact ⟨rfl, K1.trans K2⟩
  · have hn : n ≠ 0 := by rintro rfl; exact hz (Int.zero_tmod d)
    have q2 : (n.tmod d == 0) = false := by simp [hz]
    have f1 := feq_same _ (quoWord_num n d)
    have f2 := sign_word n d hn hd d1 d2
    have f3 : ∀ (t : TypeId) (w : World), (binOp .quo t (.float .f64 (floatOfInt .f64 n)) (.float .f64 (floatOfInt .f64 d))).run Try.prog w = .ok (.float .f64 (quoWord n d)) w := fun t w => run_float_arith w .quo t .f64 _ _ _ (lang_word n d hn hd n1 n2 d1 d2)
    clear hz
    generalize quoWord n d = X at C1 f1 f2 f3
    go_enter Try.func4, Try.ntmps4
    go_wp2_with fail
    refine (C0.out _).mono ?_
    rintro e wa ⟨rfl, K1⟩
    go_wp2_with fail
    refine (C1.out _).mono ?_
    rintro e wb ⟨rfl, K2⟩
    go_wp2
    go_ret
    refine ⟨?_, K1.trans K2⟩
    simp
    rfl
end Go.Proofs.Ytikmollocchfnac
