/- SafeRatios: the walk of the law. -/
import Derived.Test.YtalofkabkcpicaaTimes
import Derived.Test.YtalofkabkcpicaaRatioB
import Derived.Test.YtalofkabkcpicaaLims
import Derived.Test.YtalofkabkcpicaaBase2
import Derived.Test.YtalofkabkcpicaaOrd
import Derived.OpenShut
import Derived.Deep.RegionHeld3
namespace Go.Proofs.Ytalofkabkcpicaa
open Go.RowKit Go.ChangeShapes Go.WideShapes Go.ChangeAt

theorem i64_and1 (n : Int) : bits .and .i64 n 1 = n % 2 := by
  have h1 : (BitVec.ofInt 64 1).toNat = 2 ^ 1 - 1 := by decide
  have key : (BitVec.ofInt 64 n &&& BitVec.ofInt 64 1).toNat = (n % ((2 ^ 64 : Nat) : Int)).toNat % 2 ^ 1 := by
    rw [BitVec.toNat_and, BitVec.toNat_ofInt, h1, Nat.and_two_pow_sub_one_eq_mod]
  show IntKind.i64.wrap ((BitVec.ofInt 64 n &&& BitVec.ofInt 64 1).toNat : Nat) = n % 2
  rw [key, IntKind.wrap_i64]
  omega

set_option maxRecDepth 100000 in
set_option maxHeartbeats 2000000 in
theorem safeRatiosWalk (a0 : Int) (a1 : Int) (w0 : (Lit.int .i64 a0).wf = true) (w1 : (Lit.int .i64 a1).wf = true) (w : World) :
    Calls Try.prog 7 #[.int .i64 a0, .int .i64 a1] w fun e w' => e = .returned (.bool true) ∧ Kept w w' := by
  obtain ⟨b0, b0'⟩ := bounds_i64 w0
  obtain ⟨b1, b1'⟩ := bounds_i64 w1
  have g1 : ((Int.gcd 12 18 : Nat) : Int) = 6 := by decide
  go_enter Try.func7, Try.ntmps7
  go_wp2_with fail
  refine (ratio_calls 6 (-4) _ (by omega) (by omega) (by omega) (by omega) (by omega)).mono ?_
  rintro e wa ⟨hr, KA⟩
  obtain ⟨p, q, rfl, hl⟩ : ∃ p q, e = .returned (.tuple #[.agg #[.int .i64 p, .int .i64 q], .int .i64 0]) ∧ Lowest 6 (-4) p q := by
    rcases hr with ⟨_, h | h⟩ | h
    · omega
    · omega
    · exact h
  obtain ⟨rfl, rfl⟩ : p = -3 ∧ q = 2 := by
    obtain ⟨l1, _, _, _, l5, l6⟩ := hl
    have e1 : q % 2 = 0 := by omega
    have e2 : p % 3 = 0 := by omega
    obtain ⟨t, ht⟩ : ∃ t : Int, q = 2 * t ∧ p = -3 * t := ⟨q / 2, by omega, by omega⟩
    obtain ⟨ht1, ht2⟩ := ht
    have h1 : t.natAbs ∣ p.natAbs := by rw [ht2, Int.natAbs_mul]; exact Nat.dvd_mul_left _ _
    have h2 : t.natAbs ∣ q.natAbs := by rw [ht1, Int.natAbs_mul]; exact Nat.dvd_mul_left _ _
    have h3 := Nat.dvd_gcd h1 h2
    have h4 : Nat.gcd p.natAbs q.natAbs = 1 := l6
    rw [h4] at h3
    have h5 := Nat.dvd_one.1 h3
    omega
  clear hr hl
  go_wp2_with fail
  refine (gcd_calls 12 18 _ (by omega) (by omega) (by omega) (by omega)).mono ?_
  rintro e wb ⟨rfl, k1, rfl⟩
  rw [g1]
  have KB : Kept w ((wa.alloc (Obj.cells #[Value.int IntKind.i64 (-3), Value.int IntKind.i64 2] 57)).drewN k1) := (KA.alloc _).drewN _
  by_cases h0 : a1 = 0
  · subst h0
    go_wp2_with fail
    refine (ratio_zero a0 _).mono ?_
    rintro e wq ⟨rfl, KC⟩
    go_wp2
    go_ret
    exact ⟨rfl, (KB.trans KC).alloc _⟩
  have hb0 : (a1 == 0) = false := by simp [h0]
  go_wp2_with fail
  refine (ratio_calls a0 a1 _ b0 b0' b1 b1' h0).mono ?_
  rintro e wq ⟨hr, KC⟩
  have KD := KB.trans KC
  clear KA KB KC h0 g1
  rcases hr with ⟨rfl, h⟩ | ⟨p, q, rfl, hl⟩
  · have hcase : ((bits .and .i64 a0 1 != 0) = true ∧ (a1 == -9223372036854775808) = true) ∨ ((bits .and .i64 a0 1 != 0) = false ∧ (a0 == -9223372036854775808) = true ∧ a1 < 0 ∧ (bits .and .i64 a1 1 != 0) = true) := by
      rw [i64_and1, i64_and1]
      rcases h with ⟨h1, h2⟩ | ⟨h1, h2, h3⟩
      · exact .inl ⟨by simp; omega, by simp [h2]⟩
      · exact .inr ⟨by simp; omega, by simp [h1], h2, by simp; omega⟩
    clear h
    rcases hcase with ⟨h1, h2⟩ | ⟨h1, h2, h3, h4⟩
    · go_wp2
      go_ret
      exact ⟨rfl, KD.alloc _⟩
    · go_wp2
      go_ret
      exact ⟨rfl, KD.alloc _⟩
  · obtain ⟨l1, l2, l3, l4, l5, l6⟩ := hl
    have HL := hid_of l5
    have HG := hid_of l6
    clear l5 l6
    go_wp2_with fail
    refine (of_calls p _ l3 l4).mono ?_
    rintro e wd ⟨v1, rfl, B1, K1⟩
    go_wp2_with fail
    refine (of_calls a1 _ b1 b1').mono ?_
    rintro e we ⟨v2, rfl, B2, K2⟩
    go_wp2_with fail
    refine (times_calls _ _ p a1 _ (B1.kept K2) B2 (lim64 l3 l4) (lim64 b1 b1')).mono ?_
    rintro e wf ⟨v3, rfl, B3, K3⟩
    obtain ⟨m, ao, n, cap, ds, rfl, i2, i3, i4, i5⟩ := B3.ex
    clear i5
    have rp : wf.cell? ⟨wq.heap.size, 0, none⟩ = some (.int .i64 p) := K3.cell (K2.cell (K1.cell (by simp [go_sem])))
    have rq : wf.cell? ⟨wq.heap.size, 1, none⟩ = some (.int .i64 q) := K3.cell (K2.cell (K1.cell (by simp [go_sem])))
    have hz : wq.heap.size < wf.heap.size := by
      have z1 := K1.size
      have z2 := K2.size
      have z3 := K3.size
      simp at z1
      omega
    have KF : Kept w wf := (((KD.alloc _).trans K1).trans K2).trans K3
    clear KD K1 K2 K3 B1 B2 i2 i3 i4
    go_upto_region 10 with fail
    go_cut [10] (fun s10 wx => ∃ bb m2 ao2 n2 cap2, s10 = .pointer (some ⟨bb, 0, none⟩) ∧ wx.cell? ⟨bb, 0, none⟩ = some (.bool m2) ∧ wx.cell? ⟨bb, 1, none⟩ = some (.slice ao2 n2 cap2) ∧ BigAt wx (.agg #[.bool m2, .slice ao2 n2 cap2]) (a0 * q) ∧ Kept (wf.alloc (Obj.cells #[.bool m, .slice ao n cap] 25)) wx)
    case first =>
      go_region_held3 (fun w' => w'.cell? ⟨wq.heap.size, 1, none⟩ = some (.int .i64 q)) ((first | assumption | go_keep | (refine cell_box2 (by assumption) (by have e4 : wq.heap.size < wg.heap.size := lt_of_cell r4; have e5 : wq.heap.size < wh.heap.size := lt_of_cell r5; omega)))) (first | (go_at_call_of 10 (Value.int IntKind.i64 a0); refine (of_calls a0 _ b0 b0').mono ?_; rintro e wg ⟨v4, rfl, B4, K4⟩; have r4 := K4.cell (p := ⟨wq.heap.size, 1, none⟩) (v := .int .i64 q) (by assumption); revert K4; refine nb_intro_drew ?_; intro y0 y1 y2 y3 K4; simp only [World.size_alloc] at y0 y1 y2 y3) | (go_at_call_of 10 (Value.int IntKind.i64 a0); refine (of_calls a0 _ b0 b0').mono ?_; rintro e wg ⟨v4, rfl, B4, K4⟩; have r4 := K4.cell (p := ⟨wq.heap.size, 1, none⟩) (v := .int .i64 q) (by assumption)) | (go_at_call_of 10 (Value.int IntKind.i64 q); refine (of_calls q _ (by omega) l2).mono ?_; rintro e wh ⟨v5, rfl, B5, K5⟩; have r5 := K5.cell (p := ⟨wq.heap.size, 1, none⟩) (v := .int .i64 q) (by assumption); revert K5; refine nb_intro ?_; intro z0 z1 z2 z3 K5) | (go_at_call_of 10 (Value.int IntKind.i64 q); refine (of_calls q _ (by omega) l2).mono ?_; rintro e wh ⟨v5, rfl, B5, K5⟩; have r5 := K5.cell (p := ⟨wq.heap.size, 1, none⟩) (v := .int .i64 q) (by assumption); revert K5; refine nb_keep y0 y1 y2 y3 ?_; intro z0 z1 z2 z3 K5) | (go_at_call_of 10 (Value.int IntKind.i64 q); refine (of_calls q _ (by omega) l2).mono ?_; rintro e wh ⟨v5, rfl, B5, K5⟩; have r5 := K5.cell (p := ⟨wq.heap.size, 1, none⟩) (v := .int .i64 q) (by assumption)) | (go_at_call 17; refine (times_calls _ _ a0 q _ (B4.kept (by first | exact K5 | exact K5.alloc _ | exact ((Kept.refl _).alloc _).trans K5)) (B5.kept (by first | exact Kept.refl _ | exact (Kept.refl _).alloc _)) (lim64 b0 b0') (lim64 (by omega) l2)).mono ?_; rintro e wi ⟨v6, rfl, B6, K6⟩; have r6 := K6.cell (p := ⟨wq.heap.size, 1, none⟩) (v := .int .i64 q) (by assumption); revert K6; refine nb_intro ?_; intro x0 x1 x2 x3 K6; obtain ⟨m2, ao2, n2, cap2, ds2, rfl, j2, j3, j4, j5⟩ := B6.ex; clear j5) | (go_at_call 17; refine (times_calls _ _ a0 q _ (B4.kept (by first | exact K5 | exact K5.alloc _ | exact ((Kept.refl _).alloc _).trans K5)) (B5.kept (by first | exact Kept.refl _ | exact (Kept.refl _).alloc _)) (lim64 b0 b0') (lim64 (by omega) l2)).mono ?_; rintro e wi ⟨v6, rfl, B6, K6⟩; have r6 := K6.cell (p := ⟨wq.heap.size, 1, none⟩) (v := .int .i64 q) (by assumption); revert K6; refine nb_keep z0 z1 z2 z3 ?_; intro x0 x1 x2 x3 K6; obtain ⟨m2, ao2, n2, cap2, ds2, rfl, j2, j3, j4, j5⟩ := B6.ex; clear j5) | (go_at_call 17; refine (times_calls _ _ a0 q _ (B4.kept (by first | exact K5 | exact K5.alloc _ | exact ((Kept.refl _).alloc _).trans K5)) (B5.kept (by first | exact Kept.refl _ | exact (Kept.refl _).alloc _)) (lim64 b0 b0') (lim64 (by omega) l2)).mono ?_; rintro e wi ⟨v6, rfl, B6, K6⟩; have r6 := K6.cell (p := ⟨wq.heap.size, 1, none⟩) (v := .int .i64 q) (by assumption); obtain ⟨m2, ao2, n2, cap2, ds2, rfl, j2, j3, j4, j5⟩ := B6.ex; clear j5))
      all_goals
        go_wp2_with fail
        go_meet
        case rel =>
          have k4 : Kept (wf.alloc (Obj.cells #[.bool m, .slice ao n cap] 25)) wg := by first | exact kept_of_drew K4 | exact ((Kept.refl _).alloc _).trans (kept_of_drew K4)
          have k5 : Kept wg wh := by first | exact K5 | exact ((Kept.refl _).alloc _).trans K5
          have k6 : Kept wh wi := by first | exact K6 | exact ((Kept.refl _).alloc _).trans K6
          have kk := (k4.trans k5).trans k6
          have s4 : (wf.alloc (Obj.cells #[.bool m, .slice ao n cap] 25)).heap.size ≤ wg.heap.size := k4.size
          have s5 : wg.heap.size ≤ wh.heap.size := k5.size
          refine ⟨_, m2, ao2, n2, cap2, rfl, ?_, ?_, ?_, ?_⟩
          · first | exact (box2w x0 x1 _ _).2.2.1 | simp [go_sem]
          · first | exact (box2w x0 x1 _ _).2.2.2 | simp [go_sem]
          · first | exact B6.box2w x0 x1 _ _ | exact B6.kept ((Kept.refl _).alloc _)
          · first
              | exact kk.alloc _
              | (refine Kept.setCell (Kept.setCell kk ?_ _) ?_ _
                 · simp only [World.size_alloc] at s4 ⊢; omega
                 · simp only [World.size_alloc] at s4 ⊢; omega)
    case rest =>
      obtain ⟨bb, m2, ao2, n2, cap2, rfl, t0, t1, B7, K7⟩ := hcut
      have KW : Kept wf wc := ((Kept.refl _).alloc _).trans K7
      have u0 := KW.cell rp
      have u1 := KW.cell rq
      have x0 : wc.cell? ⟨wf.heap.size, 0, none⟩ = some (.bool m) := K7.cell (by simp [go_sem])
      have x1 : wc.cell? ⟨wf.heap.size, 1, none⟩ = some (.slice ao n cap) := K7.cell (by simp [go_sem])
      have B8 := B3.kept KW
      rw [HL.out] at B8
      have hg1 : ((Int.gcd p q : Nat) : Int) = 1 := by rw [HG.out]; rfl
      have KX := KF.trans KW
      clear K7 KW KF rp rq B3
      go_wp2_with fail
      refine (gcd_calls p q _ l3 l4 (by omega) l2).mono ?_
      rintro e wj ⟨rfl, k2, rfl⟩
      rw [hg1]
      go_wp2_with fail
      refine (compare_eq _ _ (a0 * q) _ (B8.kept ((Kept.refl _).drewN _)) (B7.kept ((Kept.refl _).drewN _))).mono ?_
      rintro e wk ⟨rfl, K8⟩
      go_wp2
      go_ret
      exact ⟨rfl, (KX.drewN _).trans K8⟩
end Go.Proofs.Ytalofkabkcpicaa
