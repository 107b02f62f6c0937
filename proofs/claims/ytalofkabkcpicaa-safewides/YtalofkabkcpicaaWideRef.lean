/- The document's number of two halves, and whether a number is one of 128 bits. -/
import Derived.Test.YtalofkabkcpicaaTimes
import Derived.Test.YtalofkabkcpicaaLims
import Derived.Test.YtalofkabkcpicaaAddSub
namespace Go.Proofs.Ytalofkabkcpicaa
open Go.RowKit

theorem ret_bool {a b : Bool} (h : a = b) : Ending.returned (.bool a) = .returned (.bool b) := by rw [h]

theorem natural_int (x : Int) (w : World) (h0 : 0 ≤ x) (hx : x < 18446744073709551616) :
    Calls Try.prog 34 #[.bool false, .int .u64 x] w fun e w' => ∃ v, e = .returned v ∧ BigAt w' v x ∧ Kept w w' := by
  obtain ⟨k, rfl⟩ := Int.eq_ofNat_of_zero_le h0
  exact (natural_calls false k w (by omega)).mono fun _ _ ⟨v, h1, h2, h3⟩ => ⟨v, h1, h2.of_eq (by simp), h3⟩

theorem lim_big {z : Int} (h1 : -1361129467683753853853498429727072845824 ≤ z) (h2 : z ≤ 1361129467683753853853498429727072845824) : z.natAbs < LIM := by
  have h : 1361129467683753853853498429727072845824 < LIM := by unfold LIM; decide
  omega

set_option maxRecDepth 100000 in
set_option maxHeartbeats 1000000 in
theorem wideR_calls (hi lo : Int) (w : World) (h1 : -9223372036854775808 ≤ hi) (h2 : hi ≤ 9223372036854775807) (h3 : 0 ≤ lo) (h4 : lo ≤ 18446744073709551615) :
    Calls Try.prog 39 #[.int .i64 hi, .int .u64 lo] w fun e w' => ∃ v, e = .returned v ∧ BigAt w' v (hi * 18446744073709551616 + lo) ∧ Kept w w' := by
  go_enter Try.func39, Try.ntmps39
  go_wp2_with fail
  refine (of_calls hi _ h1 h2).mono ?_
  rintro e wa ⟨v1, rfl, B1, K1⟩
  go_wp2_with fail
  refine (natural_int 9223372036854775808 _ (by omega) (by omega)).mono ?_
  rintro e wb ⟨v2, rfl, B2, K2⟩
  go_wp2_with fail
  refine (times_calls _ _ hi 9223372036854775808 _ (B1.kept K2) B2 (lim_big (by omega) (by omega)) (lim_big (by omega) (by omega))).mono ?_
  rintro e wc ⟨v3, rfl, B3, K3⟩
  go_wp2_with fail
  refine (of_calls hi _ h1 h2).mono ?_
  rintro e wd ⟨v4, rfl, B4, K4⟩
  go_wp2_with fail
  refine (natural_int 9223372036854775808 _ (by omega) (by omega)).mono ?_
  rintro e we ⟨v5, rfl, B5, K5⟩
  go_wp2_with fail
  refine (times_calls _ _ hi 9223372036854775808 _ (B4.kept K5) B5 (lim_big (by omega) (by omega)) (lim_big (by omega) (by omega))).mono ?_
  rintro e wf ⟨v6, rfl, B6, K6⟩
  go_wp2_with fail
  refine (natural_int lo _ h3 (by omega)).mono ?_
  rintro e wg ⟨v7, rfl, B7, K7⟩
  go_wp2_with fail
  refine (plus_calls _ _ (hi * 9223372036854775808) lo _ (B6.kept K7) B7 (lim_big (by omega) (by omega)) (lim_big (by omega) (by omega))).mono ?_
  rintro e wh ⟨v8, rfl, B8, K8⟩
  go_wp2_with fail
  have KX : Kept wc wh := (((K4.trans K5).trans K6).trans K7).trans K8
  refine (plus_calls _ _ (hi * 9223372036854775808) (hi * 9223372036854775808 + lo) _ (B3.kept KX) B8 (lim_big (by omega) (by omega)) (lim_big (by omega) (by omega))).mono ?_
  rintro e wi ⟨v9, rfl, B9, K9⟩
  have hb : BigAt wi v9 (hi * 18446744073709551616 + lo) := B9.of_eq (by omega)
  obtain ⟨m, ao, n, cap, ds, rfl, -, -, -, -⟩ := hb.ex
  have KY := (((K1.trans K2).trans K3).trans KX).trans K9
  obtain ⟨q1, q2, q3, q4, q5⟩ := box2 KY
  obtain ⟨r1, r2, r3, r4⟩ := box2w q1 q2 (.bool m) (.slice ao n cap)
  clear B9 B8 B7 B6 B5 B4 B3 B2 B1
  go_wp2
  refine bodyPost_ret (v := .agg #[.bool m, .slice ao n cap]) (by simp [results, Try.results39, go_sem, r3, r4]) rfl ⟨_, rfl, hb.box2w q1 q2 _ _, ?_⟩
  exact ((((Kept.refl _).alloc _).trans KY).setCell (Nat.le_refl _) _).setCell (Nat.le_refl _) _

set_option maxRecDepth 100000 in
set_option maxHeartbeats 1000000 in
theorem wideL_calls (hi lo z : Int) (w : World) (h : IsWide hi lo z) :
    Calls Try.prog 21 #[.agg #[.int .i64 hi, .int .u64 lo]] w fun e w' => ∃ v, e = .returned v ∧ BigAt w' v z ∧ Kept w w' := by
  obtain ⟨h1, h2, h3, h4, h5⟩ := h
  go_enter Try.func21, Try.ntmps21
  go_wp2_with fail
  refine (wideR_calls hi lo _ h1 h2 h3 h4).mono ?_
  rintro e wa ⟨v1, rfl, B1, K1⟩
  rw [← h5] at B1
  clear h5
  obtain ⟨m, ao, n, cap, ds, rfl, -, -, -, -⟩ := B1.ex
  obtain ⟨q1, q2, q3, q4, q5⟩ := box2 K1
  simp only [World.size_alloc] at q1 q2 q3 q4 q5
  obtain ⟨r1, r2, r3, r4⟩ := box2w q1 q2 (.bool m) (.slice ao n cap)
  go_wp2
  refine bodyPost_ret (v := .agg #[.bool m, .slice ao n cap]) (by simp [results, Try.results21, go_sem, r3, r4]) rfl ⟨_, rfl, B1.box2w q1 q2 _ _, ?_⟩
  exact (((((Kept.refl _).alloc _).alloc _).trans K1).setCell (Nat.le_succ _) _).setCell (Nat.le_succ _) _

theorem cmp_ge (x y : Int) : (0 ≤ Dg.cmp x y) ↔ y ≤ x := by unfold Dg.cmp; split <;> (try split) <;> omega
theorem cmp_le (x y : Int) : (Dg.cmp x y ≤ 0) ↔ x ≤ y := by unfold Dg.cmp; split <;> (try split) <;> omega

set_option maxRecDepth 100000 in
set_option maxHeartbeats 1000000 in
theorem fits_calls (v : Value) (z : Int) (b : Bool) (hb : Hid (b = true ↔ InWide z)) (w : World) (h : BigAt w v z) :
    Calls Try.prog 26 #[v] w fun e w' => e = .returned (.bool b) ∧ Kept w w' := by
  obtain ⟨m, ao, n, cap, ds, rfl, -, -, -, -⟩ := h.ex
  go_enter Try.func26, Try.ntmps26
  go_wp2_with fail
  refine (wideR_calls (-9223372036854775808) 0 _ (by omega) (by omega) (by omega) (by omega)).mono ?_
  rintro e wa ⟨v1, rfl, B1, K1⟩
  obtain ⟨m1, ao1, n1, cap1, ds1, rfl, -, -, -, -⟩ := B1.ex
  go_wp2_with fail
  refine (wideR_calls 9223372036854775807 18446744073709551615 _ (by omega) (by omega) (by omega) (by omega)).mono ?_
  rintro e wb ⟨v2, rfl, B2, K2⟩
  obtain ⟨m2, ao2, n2, cap2, ds2, rfl, -, -, -, -⟩ := B2.ex
  have c0 : wb.cell? ⟨w.heap.size, 0, none⟩ = some (.bool m) := K2.cell (((Kept.refl _).alloc _).cell (K1.cell (by simp [go_sem])))
  have c1 : wb.cell? ⟨w.heap.size, 1, none⟩ = some (.slice ao n cap) := K2.cell (((Kept.refl _).alloc _).cell (K1.cell (by simp [go_sem])))
  have d0 : wb.cell? ⟨wa.heap.size, 0, none⟩ = some (.bool m1) := K2.cell (by simp [go_sem])
  have d1 : wb.cell? ⟨wa.heap.size, 1, none⟩ = some (.slice ao1 n1 cap1) := K2.cell (by simp [go_sem])
  have z1 : w.heap.size < wb.heap.size := lt_of_cell c0
  have z2 : wa.heap.size < wb.heap.size := lt_of_cell d0
  have KB : Kept wb (wb.alloc (Obj.cells #[.bool m2, .slice ao2 n2 cap2] 25)) := (Kept.refl _).alloc _
  have C0 := h.kept ((((Kept.refl _).alloc _).trans K1).trans ((((Kept.refl _).alloc _).trans K2).trans KB))
  have C1 := B1.kept ((((Kept.refl _).alloc _).trans K2).trans KB)
  have C2 := B2.kept KB
  have KW : Kept w (wb.alloc (Obj.cells #[.bool m2, .slice ao2 n2 cap2] 25)) := (((Kept.refl _).alloc _).trans K1).trans ((((Kept.refl _).alloc _).trans K2).trans KB)
  have e0 := KB.cell c0
  have e1 := KB.cell c1
  have f0 := KB.cell d0
  have f1 := KB.cell d1
  clear B1 B2 h
  go_wp2_with fail
  refine (compare_calls _ _ z _ _ C0 C1).mono ?_
  rintro e wc ⟨rfl, K3⟩
  have g0 := K3.cell e0
  have g1 := K3.cell e1
  have i0 := K3.cell (p := ⟨wb.heap.size, 0, none⟩) (v := .bool m2) (by simp [go_sem])
  have i1 := K3.cell (p := ⟨wb.heap.size, 1, none⟩) (v := .slice ao2 n2 cap2) (by simp [go_sem])
  by_cases hlow : -170141183460469231731687303715884105728 ≤ z
  · have t1 : 0 ≤ Dg.cmp z (-9223372036854775808 * 18446744073709551616 + 0) := by rw [cmp_ge]; omega
    generalize Dg.cmp z (-9223372036854775808 * 18446744073709551616 + 0) = r1 at *
    go_wp2_with fail
    refine (compare_calls _ _ z _ _ (C0.kept K3) (C2.kept K3)).mono ?_
    rintro e wd ⟨rfl, K4⟩
    by_cases hhigh : z ≤ 170141183460469231731687303715884105727
    · have t2 : Dg.cmp z (9223372036854775807 * 18446744073709551616 + 18446744073709551615) ≤ 0 := by rw [cmp_le]; omega
      generalize Dg.cmp z (9223372036854775807 * 18446744073709551616 + 18446744073709551615) = r2 at *
      go_wp2
      go_ret
      exact ⟨ret_bool (hb.out.2 ⟨hlow, hhigh⟩).symm, (KW.trans K3).trans K4⟩
    · have t2 : ¬ Dg.cmp z (9223372036854775807 * 18446744073709551616 + 18446744073709551615) ≤ 0 := by rw [cmp_le]; omega
      generalize Dg.cmp z (9223372036854775807 * 18446744073709551616 + 18446744073709551615) = r2 at *
      go_wp2
      go_ret
      refine ⟨ret_bool ?_, (KW.trans K3).trans K4⟩
      have hf : b = false := by
        cases b
        · rfl
        · have := (hb.out.1 rfl).2; omega
      rw [hf]; simp; omega
  · have t1 : ¬ 0 ≤ Dg.cmp z (-9223372036854775808 * 18446744073709551616 + 0) := by rw [cmp_ge]; omega
    generalize Dg.cmp z (-9223372036854775808 * 18446744073709551616 + 0) = r1 at *
    go_wp2
    go_ret
    refine ⟨ret_bool ?_, KW.trans K3⟩
    have hf : b = false := by
      cases b
      · rfl
      · have := (hb.out.1 rfl).1; omega
    rw [hf]
end Go.Proofs.Ytalofkabkcpicaa
