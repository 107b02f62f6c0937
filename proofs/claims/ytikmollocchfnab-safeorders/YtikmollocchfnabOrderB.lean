/- The order of two fractions, in the document. -/
import Derived.Test.YtikmollocchfnabOrderA
import Derived.Test.YtikmollocchfnabBase2
namespace Go.Proofs.Ytikmollocchfnab
open Go.RowKit

/-- A number of any length stays where it is behind the making of a box. -/
theorem BigAt.alloc {w : World} {v : Value} {z : Int} (h : BigAt w v z) (o : Obj) : BigAt (w.alloc o) v z := h.kept ((Kept.refl _).alloc _)

set_option maxRecDepth 100000 in
set_option linter.unusedSimpArgs false in
set_option maxHeartbeats 1500000 in
theorem orderR_calls (a b c d : Int) (w : World) (a1 : -9223372036854775808 ≤ a) (a2 : a ≤ 9223372036854775807) (b1 : -9223372036854775808 ≤ b) (b2 : b ≤ 9223372036854775807)
    (c1 : -9223372036854775808 ≤ c) (c2 : c ≤ 9223372036854775807) (d1 : -9223372036854775808 ≤ d) (d2 : d ≤ 9223372036854775807) (n e0 : Int) (hne : Hid (ordv a b c d = (n, e0))) :
    Calls Try.prog 6 #[.int .i64 a, .int .i64 b, .int .i64 c, .int .i64 d] w fun e w' => e = .returned (.tuple #[.int .i64 n, .int .i64 e0]) ∧ Kept w w' := by
  by_cases hb : b = 0
  · obtain ⟨rfl, rfl⟩ : n = 0 ∧ e0 = 11 := by
      have := hne.out
      simp [ordv, hb] at this
      omega
    subst hb
    clear hne
    go_enter Try.func6, Try.ntmps6
    go_wp2
    go_ret2
    exact ⟨rfl, by first | exact Kept.refl _ | exact ((Kept.refl _).alloc _).alloc _⟩
  by_cases hd : d = 0
  · obtain ⟨rfl, rfl⟩ : n = 0 ∧ e0 = 11 := by
      have := hne.out
      simp [ordv, hd] at this
      omega
    subst hd
    clear hne
    go_enter Try.func6, Try.ntmps6
    go_wp2
    go_ret2
    exact ⟨rfl, by first | exact Kept.refl _ | exact ((Kept.refl _).alloc _).alloc _⟩
  have hb0 : (b == 0) = false := by simp [hb]
  have hd0 : (d == 0) = false := by simp [hd]
  by_cases hbn : b < 0 <;> by_cases hdn : d < 0
  · obtain ⟨rfl, rfl⟩ : n = Dg.cmp (a * d) (c * b) ∧ e0 = 0 := by
      have := hne.out
      simp only [ordv, hb, hd, hbn, hdn, or_self, if_false, not_true, not_false_iff, and_true, and_false, true_and, false_and, or_false, false_or, if_true, Prod.mk.injEq] at this
      exact ⟨this.1.symm, this.2.symm⟩
    clear hne
    have eb : decide (b < 0) = true := decide_eq_true hbn
    have ed : decide (d < 0) = true := decide_eq_true hdn
    have eq : (!decide (b < 0) == decide (d < 0)) = false := by rw [eb, ed]; rfl
    go_enter Try.func6, Try.ntmps6
    go_wp2_with fail
    refine (of_calls a _ a1 a2).mono ?_
    rintro e wa ⟨v1, rfl, B1, K1⟩
    go_wp2_with fail
    refine (of_calls d _ d1 d2).mono ?_
    rintro e wb ⟨v2, rfl, B2, K2⟩
    go_wp2_with fail
    refine (times_calls _ _ a d _ (B1.kept K2) B2 (lim64 a1 a2) (lim64 d1 d2)).mono ?_
    rintro e wc ⟨v3, rfl, B3, K3⟩
    have KC : Kept w wc := (K1.trans K2).trans K3
    obtain ⟨m3, o3, n3, p3, ds3, rfl, -, -, -, -⟩ := B3.ex
    clear B1 B2 K1 K2 K3
    go_wp2_with fail
    refine (of_calls c _ c1 c2).mono ?_
    rintro e wd ⟨v4, rfl, B4, K4⟩
    go_wp2_with fail
    refine (of_calls b _ b1 b2).mono ?_
    rintro e we ⟨v5, rfl, B5, K5⟩
    go_wp2_with fail
    refine (times_calls _ _ c b _ (B4.kept K5) B5 (lim64 c1 c2) (lim64 b1 b2)).mono ?_
    rintro e wf ⟨v6, rfl, B6, K6⟩
    obtain ⟨m6, o6, n6, p6, ds6, rfl, -, -, -, -⟩ := B6.ex
    have KF := (K4.trans K5).trans K6
    obtain ⟨q1, q2, q3, q4, q5⟩ := box2 KF
    have KW : Kept w wf := (KC.alloc _).trans KF
    have B3' : BigAt wf (.agg #[.bool m3, .slice o3 n3 p3]) (a * d) := (B3.alloc _).kept KF
    clear B4 B5 K4 K5 K6
    go_wp2_with fail
    refine (compare_calls _ _ (a * d) (c * b) _ (B3'.alloc _) (B6.alloc _)).mono ?_
    rintro e wg ⟨rfl, K7⟩
    go_wp2_with fail
    go_ret2
    exact ⟨rfl, (KW.alloc _).trans K7⟩
  · obtain ⟨rfl, rfl⟩ : n = Dg.cmp (c * b) (a * d) ∧ e0 = 0 := by
      have := hne.out
      simp only [ordv, hb, hd, hbn, hdn, or_self, if_false, not_true, not_false_iff, and_true, and_false, true_and, false_and, or_false, false_or, if_true, Prod.mk.injEq] at this
      exact ⟨this.1.symm, this.2.symm⟩
    clear hne
    have eb : decide (b < 0) = true := decide_eq_true hbn
    have ed : decide (d < 0) = false := decide_eq_false hdn
    have eq : (!decide (b < 0) == decide (d < 0)) = true := by rw [eb, ed]; rfl
    go_enter Try.func6, Try.ntmps6
    go_wp2_with fail
    refine (of_calls a _ a1 a2).mono ?_
    rintro e wa ⟨v1, rfl, B1, K1⟩
    go_wp2_with fail
    refine (of_calls d _ d1 d2).mono ?_
    rintro e wb ⟨v2, rfl, B2, K2⟩
    go_wp2_with fail
    refine (times_calls _ _ a d _ (B1.kept K2) B2 (lim64 a1 a2) (lim64 d1 d2)).mono ?_
    rintro e wc ⟨v3, rfl, B3, K3⟩
    have KC : Kept w wc := (K1.trans K2).trans K3
    obtain ⟨m3, o3, n3, p3, ds3, rfl, -, -, -, -⟩ := B3.ex
    clear B1 B2 K1 K2 K3
    go_wp2_with fail
    refine (of_calls c _ c1 c2).mono ?_
    rintro e wd ⟨v4, rfl, B4, K4⟩
    go_wp2_with fail
    refine (of_calls b _ b1 b2).mono ?_
    rintro e we ⟨v5, rfl, B5, K5⟩
    go_wp2_with fail
    refine (times_calls _ _ c b _ (B4.kept K5) B5 (lim64 c1 c2) (lim64 b1 b2)).mono ?_
    rintro e wf ⟨v6, rfl, B6, K6⟩
    obtain ⟨m6, o6, n6, p6, ds6, rfl, -, -, -, -⟩ := B6.ex
    have KF := (K4.trans K5).trans K6
    obtain ⟨q1, q2, q3, q4, q5⟩ := box2 KF
    have KW : Kept w wf := (KC.alloc _).trans KF
    have B3' : BigAt wf (.agg #[.bool m3, .slice o3 n3 p3]) (a * d) := (B3.alloc _).kept KF
    clear B4 B5 K4 K5 K6
    go_wp2_with fail
    refine (compare_calls _ _ (c * b) (a * d) _ (B6.alloc _) (B3'.alloc _)).mono ?_
    rintro e wg ⟨rfl, K7⟩
    go_wp2_with fail
    go_ret2
    exact ⟨rfl, (KW.alloc _).trans K7⟩
  · obtain ⟨rfl, rfl⟩ : n = Dg.cmp (c * b) (a * d) ∧ e0 = 0 := by
      have := hne.out
      simp only [ordv, hb, hd, hbn, hdn, or_self, if_false, not_true, not_false_iff, and_true, and_false, true_and, false_and, or_false, false_or, if_true, Prod.mk.injEq] at this
      exact ⟨this.1.symm, this.2.symm⟩
    clear hne
    have eb : decide (b < 0) = false := decide_eq_false hbn
    have ed : decide (d < 0) = true := decide_eq_true hdn
    have eq : (!decide (b < 0) == decide (d < 0)) = true := by rw [eb, ed]; rfl
    go_enter Try.func6, Try.ntmps6
    go_wp2_with fail
    refine (of_calls a _ a1 a2).mono ?_
    rintro e wa ⟨v1, rfl, B1, K1⟩
    go_wp2_with fail
    refine (of_calls d _ d1 d2).mono ?_
    rintro e wb ⟨v2, rfl, B2, K2⟩
    go_wp2_with fail
    refine (times_calls _ _ a d _ (B1.kept K2) B2 (lim64 a1 a2) (lim64 d1 d2)).mono ?_
    rintro e wc ⟨v3, rfl, B3, K3⟩
    have KC : Kept w wc := (K1.trans K2).trans K3
    obtain ⟨m3, o3, n3, p3, ds3, rfl, -, -, -, -⟩ := B3.ex
    clear B1 B2 K1 K2 K3
    go_wp2_with fail
    refine (of_calls c _ c1 c2).mono ?_
    rintro e wd ⟨v4, rfl, B4, K4⟩
    go_wp2_with fail
    refine (of_calls b _ b1 b2).mono ?_
    rintro e we ⟨v5, rfl, B5, K5⟩
    go_wp2_with fail
    refine (times_calls _ _ c b _ (B4.kept K5) B5 (lim64 c1 c2) (lim64 b1 b2)).mono ?_
    rintro e wf ⟨v6, rfl, B6, K6⟩
    obtain ⟨m6, o6, n6, p6, ds6, rfl, -, -, -, -⟩ := B6.ex
    have KF := (K4.trans K5).trans K6
    obtain ⟨q1, q2, q3, q4, q5⟩ := box2 KF
    have KW : Kept w wf := (KC.alloc _).trans KF
    have B3' : BigAt wf (.agg #[.bool m3, .slice o3 n3 p3]) (a * d) := (B3.alloc _).kept KF
    clear B4 B5 K4 K5 K6
    go_wp2_with fail
    refine (compare_calls _ _ (c * b) (a * d) _ (B6.alloc _) (B3'.alloc _)).mono ?_
    rintro e wg ⟨rfl, K7⟩
    go_wp2_with fail
    go_ret2
    exact ⟨rfl, (KW.alloc _).trans K7⟩
  · obtain ⟨rfl, rfl⟩ : n = Dg.cmp (a * d) (c * b) ∧ e0 = 0 := by
      have := hne.out
      simp only [ordv, hb, hd, hbn, hdn, or_self, if_false, not_true, not_false_iff, and_true, and_false, true_and, false_and, or_false, false_or, if_true, Prod.mk.injEq] at this
      exact ⟨this.1.symm, this.2.symm⟩
    clear hne
    have eb : decide (b < 0) = false := decide_eq_false hbn
    have ed : decide (d < 0) = false := decide_eq_false hdn
    have eq : (!decide (b < 0) == decide (d < 0)) = false := by rw [eb, ed]; rfl
    go_enter Try.func6, Try.ntmps6
    go_wp2_with fail
    refine (of_calls a _ a1 a2).mono ?_
    rintro e wa ⟨v1, rfl, B1, K1⟩
    go_wp2_with fail
    refine (of_calls d _ d1 d2).mono ?_
    rintro e wb ⟨v2, rfl, B2, K2⟩
    go_wp2_with fail
    refine (times_calls _ _ a d _ (B1.kept K2) B2 (lim64 a1 a2) (lim64 d1 d2)).mono ?_
    rintro e wc ⟨v3, rfl, B3, K3⟩
    have KC : Kept w wc := (K1.trans K2).trans K3
    obtain ⟨m3, o3, n3, p3, ds3, rfl, -, -, -, -⟩ := B3.ex
    clear B1 B2 K1 K2 K3
    go_wp2_with fail
    refine (of_calls c _ c1 c2).mono ?_
    rintro e wd ⟨v4, rfl, B4, K4⟩
    go_wp2_with fail
    refine (of_calls b _ b1 b2).mono ?_
    rintro e we ⟨v5, rfl, B5, K5⟩
    go_wp2_with fail
    refine (times_calls _ _ c b _ (B4.kept K5) B5 (lim64 c1 c2) (lim64 b1 b2)).mono ?_
    rintro e wf ⟨v6, rfl, B6, K6⟩
    obtain ⟨m6, o6, n6, p6, ds6, rfl, -, -, -, -⟩ := B6.ex
    have KF := (K4.trans K5).trans K6
    obtain ⟨q1, q2, q3, q4, q5⟩ := box2 KF
    have KW : Kept w wf := (KC.alloc _).trans KF
    have B3' : BigAt wf (.agg #[.bool m3, .slice o3 n3 p3]) (a * d) := (B3.alloc _).kept KF
    clear B4 B5 K4 K5 K6
    go_wp2_with fail
    refine (compare_calls _ _ (a * d) (c * b) _ (B3'.alloc _) (B6.alloc _)).mono ?_
    rintro e wg ⟨rfl, K7⟩
    go_wp2_with fail
    go_ret2
    exact ⟨rfl, (KW.alloc _).trans K7⟩

theorem cmp_swap (x y : Int) : Dg.cmp y x = -Dg.cmp x y := by unfold Dg.cmp; split <;> split <;> (try split) <;> omega

/-- Turned about, the order is minus what it was. -/
theorem ordv_swap (a b c d : Int) : ordv c d a b = (-(ordv a b c d).1, (ordv a b c d).2) := by
  unfold ordv
  by_cases hb : b = 0
  · rw [if_pos (.inr hb), if_pos (.inl hb)]; rfl
  by_cases hd : d = 0
  · rw [if_pos (.inl hd), if_pos (.inr hd)]; rfl
  rw [if_neg (show ¬ (d = 0 ∨ b = 0) by omega), if_neg (show ¬ (b = 0 ∨ d = 0) by omega)]
  by_cases h : (b < 0 ∧ ¬ d < 0) ∨ (¬ b < 0 ∧ d < 0)
  · rw [if_pos h, if_pos (show (d < 0 ∧ ¬ b < 0) ∨ (¬ d < 0 ∧ b < 0) by omega)]
    show (Dg.cmp (a * d) (c * b), (0 : Int)) = (-Dg.cmp (c * b) (a * d), 0)
    rw [cmp_swap]
  · rw [if_neg h, if_neg (show ¬ ((d < 0 ∧ ¬ b < 0) ∨ (¬ d < 0 ∧ b < 0)) by omega)]
    show (Dg.cmp (c * b) (a * d), (0 : Int)) = (-Dg.cmp (a * d) (c * b), 0)
    rw [cmp_swap]

theorem ordv_bd (a b c d : Int) : -1 ≤ (ordv a b c d).1 ∧ (ordv a b c d).1 ≤ 1 := by
  unfold ordv
  split
  · exact ⟨by show (-1 : Int) ≤ 0; omega, by show (0 : Int) ≤ 1; omega⟩
  · split <;> exact Dg.cmp_bd _ _

theorem ordv_code (a b c d : Int) : ((ordv a b c d).2 = 11 ∧ (b = 0 ∨ d = 0)) ∨ ((ordv a b c d).2 = 0 ∧ b ≠ 0 ∧ d ≠ 0) := by
  unfold ordv
  split
  · exact .inl ⟨rfl, ‹_›⟩
  · split <;> exact .inr ⟨rfl, by omega, by omega⟩

/-- A fraction and the same with both parts k times as great are of one order. -/
theorem ordv_same (a b k : Int) (hb : b ≠ 0) (hk : k ≠ 0) : ordv a b (a * k) (b * k) = (0, 0) := by
  have hbk : b * k ≠ 0 := Int.mul_ne_zero hb hk
  have e : a * (b * k) = a * k * b := by rw [Int.mul_assoc, Int.mul_comm k b]
  unfold ordv
  rw [if_neg (by omega), e, Dg.cmp_eq rfl]
  split <;> rfl
end Go.Proofs.Ytikmollocchfnab
