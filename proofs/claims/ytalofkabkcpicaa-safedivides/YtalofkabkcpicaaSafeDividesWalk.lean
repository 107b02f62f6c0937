/- SafeDivides: the walk of the law. -/
import Derived.Test.YtalofkabkcpicaaTimes
import Derived.Test.YtalofkabkcpicaaDiv
import Derived.OpenShut
import Derived.Test.YtalofkabkcpicaaOrd
namespace Go.Proofs.Ytalofkabkcpicaa
open Go.RowKit Go.ChangeShapes Go.WideShapes Go.ChangeAt

theorem lim64 {a : Int} (h1 : -9223372036854775808 ≤ a) (h2 : a ≤ 9223372036854775807) : a.natAbs < LIM := by
  have h : 18446744073709551616 ≤ LIM := by unfold LIM; decide
  omega
theorem lim128 {a b : Int} (h1 : -9223372036854775808 ≤ a) (h2 : a ≤ 9223372036854775807) (h3 : -9223372036854775808 ≤ b) (h4 : b ≤ 9223372036854775807) : (a * b).natAbs < LIM := by
  have h : 9223372036854775808 * 9223372036854775808 < LIM := by unfold LIM; decide
  rw [Int.natAbs_mul]
  have : a.natAbs * b.natAbs ≤ 9223372036854775808 * 9223372036854775808 := Nat.mul_le_mul (by omega) (by omega)
  omega

theorem compare_eq (v1 v2 : Value) (z : Int) (w : World) (h1 : BigAt w v1 z) (h2 : BigAt w v2 z) :
    Calls Try.prog 19 #[v1, v2] w fun e w' => e = .returned (.int .i64 0) ∧ Kept w w' := by
  have := compare_calls v1 v2 z z w h1 h2
  rw [Dg.cmp_eq rfl] at this
  exact this

set_option maxRecDepth 100000 in
set_option maxHeartbeats 2000000 in
theorem safeDividesWalk (a0 : Int) (a1 : Int) (w0 : (Lit.int .i64 a0).wf = true) (w1 : (Lit.int .i64 a1).wf = true) (w : World) :
    Calls Try.prog 4 #[.int .i64 a0, .int .i64 a1] w fun e w' => e = .returned (.bool true) ∧ Kept w w' := by
  obtain ⟨b0, b0'⟩ := bounds_i64 w0
  obtain ⟨b1, b1'⟩ := bounds_i64 w1
  go_enter Try.func4, Try.ntmps4
  go_wp2_with fail
  refine (div_calls (-7) 2 _ (by omega) (by omega) (by omega) (by omega) (by omega) (by omega)).mono ?_
  rintro e w' ⟨⟨q, r, rfl, hd⟩, n1, rfl⟩
  obtain ⟨rfl, rfl⟩ : q = -4 ∧ r = 1 := by unfold Divides at hd; omega
  clear hd
  by_cases h0 : a1 = 0
  · subst h0
    go_wp2_with fail
    refine (div_zero a0 _).mono ?_
    rintro e w' ⟨rfl, rfl⟩
    go_wp2
    go_ret
    exact ⟨rfl, (Kept.refl _).drewN _⟩
  by_cases hx : a0 = -9223372036854775808 ∧ a1 = -1
  · obtain ⟨rfl, rfl⟩ := hx
    go_wp2_with fail
    refine (div_least _).mono ?_
    rintro e w' ⟨rfl, rfl⟩
    go_wp2
    go_ret
    exact ⟨rfl, (Kept.refl _).drewN _⟩
  have hb0 : (a1 == 0) = false := by simp [h0]
  go_wp2_with fail
  refine (div_calls a0 a1 _ b0 b0' b1 b1' h0 hx).mono ?_
  rintro e w' ⟨⟨q, r, rfl, hd⟩, n2, rfl⟩
  have hxx : (a0 == -9223372036854775808) = false ∨ ((a0 == -9223372036854775808) = true ∧ (a1 == -1) = false) := by
    by_cases h : a0 = -9223372036854775808
    · exact .inr ⟨by simp [h], by simp; exact fun h' => hx ⟨h, h'⟩⟩
    · exact .inl (by simp [h])
  clear hx h0
  obtain ⟨d1, d2, d3, d4⟩ := hd
  have HD := hid_of d1
  clear d1
  rcases hxx with h1 | ⟨h1, h2⟩
  all_goals
    go_wp2_with fail
    refine (of_calls q _ d2 d3).mono ?_
    rintro e wa ⟨v1, rfl, B1, K1⟩
    go_wp2_with fail
    refine (of_calls a1 _ b1 b1').mono ?_
    rintro e wb ⟨v2, rfl, B2, K2⟩
    go_wp2_with fail
    refine (times_calls _ _ q a1 _ (B1.kept K2) B2 (lim64 d2 d3) (lim64 b1 b1')).mono ?_
    rintro e wc ⟨v3, rfl, B3, K3⟩
    go_wp2_with fail
    refine (of_calls r _ (by omega) (by omega)).mono ?_
    rintro e wd ⟨v4, rfl, B4, K4⟩
    go_wp2_with fail
    refine (plus_calls _ _ (q * a1) r _ (B3.kept K4) B4 (lim128 d2 d3 b1 b1') (lim64 (by omega) (by omega))).mono ?_
    rintro e we ⟨v5, rfl, B5, K5⟩
    rw [HD.out] at B5
    obtain ⟨m, ao, n, cap, ds, rfl, i2, i3, i4, i5⟩ := B5.ex
    clear i5
    have hc : Dg.cmp a0 a0 = 0 := Dg.cmp_eq rfl
    go_wp2_with fail
    have KK : Kept w we := ((((Kept.refl w).drewN (n1 + n2)).trans K1).trans K2).trans (K3.trans (K4.trans K5))
    clear K1 K2 K3 K4 K5 B1 B2 B3 B4 HD
    have p0 : (we.alloc (Obj.cells #[Value.bool m, Value.slice ao n cap] 25)).cell? ⟨we.heap.size, 0, none⟩ = some (.bool m) := by simp [go_sem]
    have p1 : (we.alloc (Obj.cells #[Value.bool m, Value.slice ao n cap] 25)).cell? ⟨we.heap.size, 1, none⟩ = some (.slice ao n cap) := by simp [go_sem]
    have d5 : (0 < a1 ∧ 0 ≤ r ∧ r < a1 ∧ decide (0 < a1) = true) ∨ (a1 < 0 ∧ a1 < r ∧ r ≤ 0 ∧ decide (0 < a1) = false) := by
      rcases d4 with ⟨s1, s2, s3⟩ | ⟨s1, s2, s3⟩
      · exact .inl ⟨s1, s2, s3, by simp; omega⟩
      · exact .inr ⟨s1, s2, s3, by simp; omega⟩
    clear d4
    rcases d5 with ⟨s1, s2, s3, s4⟩ | ⟨s1, s2, s3, s4⟩
    all_goals
      refine Ord.region [(0, 0), (1, 0), (2, 0), (3, 1), (4, 0), (5, 2), (6, 2), (7, 0), (8, 0), (9, 0), (10, 0), (11, 0), (12, 0), (13, 0), (14, 0), (15, 0), (16, 0), (17, 0), (18, 0), (19, 0), (20, 0), (21, 0), (22, 0), (23, 0), (24, 0), (25, 0), (26, 0), (27, 0), (28, 0), (29, 0), (30, 0), (31, 0), (32, 0), (33, 0), (34, 0), (35, 0)] (fun w' => Kept (we.alloc (Obj.cells #[Value.bool m, Value.slice ao n cap] 25)) w') (by kernel_rfl) (by kernel_rfl) (by kernel_rfl) (by kernel_rfl) (fun _ _ d _ _ h => by cases d <;> exact h) ((Kept.refl _).drewN _) ?_
      repeat
        refine Ord.step rfl (fun K hK => ?_)
        simp only [Ord.body]
        go_simp
        first
          | (refine hK _ _ ?_; clear hK K)
          | (refine ⟨_, fun w' hS => (by have c0 := hS.cell p0; have c1 := hS.cell p1; simp only [c0, c1, Result.andThen]; rfl), hK _ _ ?_⟩; clear hK K)
          | (go_at_call 10; refine (of_calls a0 _ b0 b0').mono ?_; rintro e wf ⟨v6, rfl, B6, K6⟩; refine ⟨((Kept.refl _).drewN _).trans K6, hK _ _ ?_⟩; clear hK K)
          | (go_at_call 19; refine (compare_eq _ _ a0 _ (B5.kept ((((Kept.refl _).alloc _).drewN _).trans K6)) B6).mono ?_; rintro e wg ⟨rfl, K7⟩; refine ⟨(((Kept.refl _).drewN _).trans K6).trans K7, hK _ _ ?_⟩; clear hK K)
      refine Ord.done ?_
      go_wp2
      go_ret
      exact ⟨rfl, (((KK.alloc _).drewN _).trans K6).trans K7⟩
end Go.Proofs.Ytalofkabkcpicaa
