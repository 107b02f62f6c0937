/- The order of two fractions, in the program. -/
import Derived.Test.YtomopfjaebcpeaaWideS
namespace Go.Proofs.Ytomopfjaebcpeaa
open Go.RowKit

/-- The order of a/b and c/d, and the code. -/
def ordv (a b c d : Int) : Int × Int :=
  if b = 0 ∨ d = 0 then (0, 11) else if (b < 0 ∧ ¬ d < 0) ∨ (¬ b < 0 ∧ d < 0) then (Dg.cmp (c * b) (a * d), 0) else (Dg.cmp (a * d) (c * b), 0)

set_option maxRecDepth 100000 in
set_option linter.unusedSimpArgs false in
set_option maxHeartbeats 1500000 in
theorem orderP_calls (a b c d : Int) (w : World) (a1 : -9223372036854775808 ≤ a) (a2 : a ≤ 9223372036854775807) (b1 : -9223372036854775808 ≤ b) (b2 : b ≤ 9223372036854775807)
    (c1 : -9223372036854775808 ≤ c) (c2 : c ≤ 9223372036854775807) (d1 : -9223372036854775808 ≤ d) (d2 : d ≤ 9223372036854775807) (n e0 : Int) (hne : Hid (ordv a b c d = (n, e0))) :
    Calls Try.prog 37 #[.int .i64 a, .int .i64 b, .int .i64 c, .int .i64 d] w fun e w' => e = .returned (.tuple #[.int .i64 n, .int .i64 e0]) ∧ Kept w w' := by
  by_cases hb : b = 0
  · obtain ⟨rfl, rfl⟩ : n = 0 ∧ e0 = 11 := by
      have := hne.out
      simp [ordv, hb] at this
      omega
    subst hb
    clear hne
    go_enter Try.func37, Try.ntmps37
    go_wp2
    go_ret2
    exact ⟨rfl, by first | exact Kept.refl _ | exact ((Kept.refl _).alloc _).alloc _⟩
  by_cases hd : d = 0
  · obtain ⟨rfl, rfl⟩ : n = 0 ∧ e0 = 11 := by
      have := hne.out
      simp [ordv, hd] at this
      omega
    subst hd
    clear hne
    go_enter Try.func37, Try.ntmps37
    go_wp2
    go_ret2
    exact ⟨rfl, by first | exact Kept.refl _ | exact ((Kept.refl _).alloc _).alloc _⟩
  have hb0 : (b == 0) = false := by simp [hb]
  have hd0 : (d == 0) = false := by simp [hd]
  by_cases hbn : b < 0 <;> by_cases hdn : d < 0
  · obtain ⟨rfl, rfl⟩ : n = Dg.cmp (a * d) (c * b) ∧ e0 = 0 := by
      have := hne.out
      simp only [ordv, hb, hd, hbn, hdn, or_self, if_false, not_true, not_false_iff, and_true, and_false, true_and, false_and, or_false, false_or, if_true, Prod.mk.injEq] at this
      exact ⟨this.1.symm, this.2.symm⟩
    clear hne
    have eb : decide (b < 0) = true := decide_eq_true hbn
    have ed : decide (d < 0) = true := decide_eq_true hdn
    have eq : (!decide (b < 0) == decide (d < 0)) = false := by rw [eb, ed]; rfl
    go_enter Try.func37, Try.ntmps37
    go_wp2_with fail
    refine (product_calls a d _ a1 a2 d1 d2).mono ?_
    rintro e wa ⟨⟨h1, l1, rfl, hw1⟩, K1⟩
    go_wp2_with fail
    refine (product_calls c b _ c1 c2 b1 b2).mono ?_
    rintro e wb ⟨⟨h2, l2, rfl, hw2⟩, K2⟩
    have KW : Kept w ((wb.alloc (Obj.cells #[.int .i64 h1, .int .u64 l1] 116)).alloc (Obj.cells #[.int .i64 h2, .int .u64 l2] 116)) := ((K1.trans K2).alloc _).alloc _
    go_wp2_with fail
    refine (compareP_calls h1 l1 h2 l2 (a * d) (c * b) _ hw1 hw2).mono ?_
    rintro e wc ⟨rfl, K3⟩
    go_wp2_with fail
    go_ret2
    exact ⟨rfl, KW.trans K3⟩
  · obtain ⟨rfl, rfl⟩ : n = Dg.cmp (c * b) (a * d) ∧ e0 = 0 := by
      have := hne.out
      simp only [ordv, hb, hd, hbn, hdn, or_self, if_false, not_true, not_false_iff, and_true, and_false, true_and, false_and, or_false, false_or, if_true, Prod.mk.injEq] at this
      exact ⟨this.1.symm, this.2.symm⟩
    clear hne
    have eb : decide (b < 0) = true := decide_eq_true hbn
    have ed : decide (d < 0) = false := decide_eq_false hdn
    have eq : (!decide (b < 0) == decide (d < 0)) = true := by rw [eb, ed]; rfl
    go_enter Try.func37, Try.ntmps37
    go_wp2_with fail
    refine (product_calls a d _ a1 a2 d1 d2).mono ?_
    rintro e wa ⟨⟨h1, l1, rfl, hw1⟩, K1⟩
    go_wp2_with fail
    refine (product_calls c b _ c1 c2 b1 b2).mono ?_
    rintro e wb ⟨⟨h2, l2, rfl, hw2⟩, K2⟩
    have KW : Kept w ((wb.alloc (Obj.cells #[.int .i64 h1, .int .u64 l1] 116)).alloc (Obj.cells #[.int .i64 h2, .int .u64 l2] 116)) := ((K1.trans K2).alloc _).alloc _
    go_wp2_with fail
    refine (compareP_calls h2 l2 h1 l1 (c * b) (a * d) _ hw2 hw1).mono ?_
    rintro e wc ⟨rfl, K3⟩
    go_wp2_with fail
    go_ret2
    refine ⟨rfl, Kept.trans ?_ K3⟩
    exact ((K1.trans K2).alloc _).alloc _
  · obtain ⟨rfl, rfl⟩ : n = Dg.cmp (c * b) (a * d) ∧ e0 = 0 := by
      have := hne.out
      simp only [ordv, hb, hd, hbn, hdn, or_self, if_false, not_true, not_false_iff, and_true, and_false, true_and, false_and, or_false, false_or, if_true, Prod.mk.injEq] at this
      exact ⟨this.1.symm, this.2.symm⟩
    clear hne
    have eb : decide (b < 0) = false := decide_eq_false hbn
    have ed : decide (d < 0) = true := decide_eq_true hdn
    have eq : (!decide (b < 0) == decide (d < 0)) = true := by rw [eb, ed]; rfl
    go_enter Try.func37, Try.ntmps37
    go_wp2_with fail
    refine (product_calls a d _ a1 a2 d1 d2).mono ?_
    rintro e wa ⟨⟨h1, l1, rfl, hw1⟩, K1⟩
    go_wp2_with fail
    refine (product_calls c b _ c1 c2 b1 b2).mono ?_
    rintro e wb ⟨⟨h2, l2, rfl, hw2⟩, K2⟩
    have KW : Kept w ((wb.alloc (Obj.cells #[.int .i64 h1, .int .u64 l1] 116)).alloc (Obj.cells #[.int .i64 h2, .int .u64 l2] 116)) := ((K1.trans K2).alloc _).alloc _
    go_wp2_with fail
    refine (compareP_calls h2 l2 h1 l1 (c * b) (a * d) _ hw2 hw1).mono ?_
    rintro e wc ⟨rfl, K3⟩
    go_wp2_with fail
    go_ret2
    refine ⟨rfl, Kept.trans ?_ K3⟩
    exact ((K1.trans K2).alloc _).alloc _
  · obtain ⟨rfl, rfl⟩ : n = Dg.cmp (a * d) (c * b) ∧ e0 = 0 := by
      have := hne.out
      simp only [ordv, hb, hd, hbn, hdn, or_self, if_false, not_true, not_false_iff, and_true, and_false, true_and, false_and, or_false, false_or, if_true, Prod.mk.injEq] at this
      exact ⟨this.1.symm, this.2.symm⟩
    clear hne
    have eb : decide (b < 0) = false := decide_eq_false hbn
    have ed : decide (d < 0) = false := decide_eq_false hdn
    have eq : (!decide (b < 0) == decide (d < 0)) = false := by rw [eb, ed]; rfl
    go_enter Try.func37, Try.ntmps37
    go_wp2_with fail
    refine (product_calls a d _ a1 a2 d1 d2).mono ?_
    rintro e wa ⟨⟨h1, l1, rfl, hw1⟩, K1⟩
    go_wp2_with fail
    refine (product_calls c b _ c1 c2 b1 b2).mono ?_
    rintro e wb ⟨⟨h2, l2, rfl, hw2⟩, K2⟩
    have KW : Kept w ((wb.alloc (Obj.cells #[.int .i64 h1, .int .u64 l1] 116)).alloc (Obj.cells #[.int .i64 h2, .int .u64 l2] 116)) := ((K1.trans K2).alloc _).alloc _
    go_wp2_with fail
    refine (compareP_calls h1 l1 h2 l2 (a * d) (c * b) _ hw1 hw2).mono ?_
    rintro e wc ⟨rfl, K3⟩
    go_wp2_with fail
    go_ret2
    exact ⟨rfl, KW.trans K3⟩
end Go.Proofs.Ytomopfjaebcpeaa
