/- SafeAdds: the walk of the law. -/
import Derived.Test.YtalofkabkcpicaaTimes
import Derived.Test.YtalofkabkcpicaaLims
import Derived.Test.YtalofkabkcpicaaAwake
import Derived.OpenShut
namespace Go.Proofs.Ytalofkabkcpicaa
open Go.RowKit Go.ChangeShapes Go.WideShapes Go.ChangeAt

set_option maxRecDepth 100000 in
set_option maxHeartbeats 2000000 in
theorem safeAddsWalk (a0 : Int) (a1 : Int) (w0 : (Lit.int .i64 a0).wf = true) (w1 : (Lit.int .i64 a1).wf = true) (w : World) :
    Calls Try.prog 3 #[.int .i64 a0, .int .i64 a1] w fun e w' => e = .returned (.bool true) ∧ Kept w w' := by
  obtain ⟨b0, b0'⟩ := bounds_i64 w0
  obtain ⟨b1, b1'⟩ := bounds_i64 w1
  have hnot : ∀ (x : Bool) (w : World), (Op.unary .not (.bool x)).run Try.prog w = .ok (.bool (!x)) w := fun _ _ => rfl
  go_enter Try.func3, Try.ntmps3
  go_wp2_with fail
  refine (awake_calls _).mono ?_
  rintro e wa ⟨rfl, K1⟩
  go_wp2_with fail
  refine (of_calls a0 _ b0 b0').mono ?_
  rintro e wb ⟨v1, rfl, B1, K2⟩
  go_wp2_with fail
  refine (of_calls a1 _ b1 b1').mono ?_
  rintro e wc ⟨v2, rfl, B2, K3⟩
  have C1 := B1.kept K3
  obtain ⟨m1, ao1, n1, k1, ds1, rfl, -, -, -, -⟩ := B1.ex
  obtain ⟨m2, ao2, n2, k2, ds2, rfl, -, -, -, -⟩ := B2.ex
  have KC : Kept w wc := (K1.trans K2).trans K3
  clear K1 K2 K3 B1
  go_wp2_with fail
  refine (add_calls a0 a1 _ b0 b0' b1 b1').mono ?_
  rintro e wx ⟨rfl, rfl⟩
  generalize hs : narrow (a0 + a1) = s
  have KW : Kept wc ((wc.alloc (Obj.cells #[.bool m1, .slice ao1 n1 k1] 25)).alloc (Obj.cells #[.bool m2, .slice ao2 n2 k2] 25)) := ((Kept.refl _).alloc _).alloc _
  have HS := hid_of hs
  clear hs
  go_wp2_with fail
  refine (plus_calls _ _ a0 a1 _ (C1.kept KW) (B2.kept KW) (lim64 b0 b0') (lim64 b1 b1')).mono ?_
  rintro e wd ⟨v3, rfl, B3, K4⟩
  go_wp2_with fail
  refine (narrow_calls v3 _ _ B3).mono ?_
  rintro e we ⟨rfl, K5⟩
  rw [HS.out]
  have p0 : we.cell? ⟨wc.heap.size, 0, none⟩ = some (.bool m1) := K5.cell (K4.cell (by simp [go_sem]))
  have p1 : we.cell? ⟨wc.heap.size, 1, none⟩ = some (.slice ao1 n1 k1) := K5.cell (K4.cell (by simp [go_sem]))
  have q0 : we.cell? ⟨wc.heap.size + 1, 0, none⟩ = some (.bool m2) := K5.cell (K4.cell (by simp [go_sem]))
  have q1 : we.cell? ⟨wc.heap.size + 1, 1, none⟩ = some (.slice ao2 n2 k2) := K5.cell (K4.cell (by simp [go_sem]))
  have C3 := C1.kept ((KW.trans K4).trans K5)
  have C4 := B2.kept ((KW.trans K4).trans K5)
  have KE := KC.trans ((KW.trans K4).trans K5)
  clear KW K4 K5 B3 KC C1 B2
  go_wp2_with fail
  refine (sub_calls a0 a1 _ b0 b0' b1 b1').mono ?_
  rintro e wx ⟨rfl, rfl⟩
  generalize hd : narrow (a0 - a1) = d
  have HD := hid_of hd
  clear hd
  go_wp2_with fail
  refine Ord.region [(0, 1), (1, 1), (2, 2), (3, 2), (4, 2), (5, 0), (6, 0), (7, 0), (8, 0), (9, 0)] (fun w' => Kept we w') (by kernel_rfl) (by kernel_rfl) (by kernel_rfl) (by kernel_rfl) (fun _ _ d _ _ h => by cases d <;> exact h) ((Kept.refl _).drewN _) ?_
  repeat
    refine Ord.step rfl (fun K hK => ?_)
    simp only [Ord.body]
    go_simp
    first
      | (refine hK _ _ ?_; clear hK K)
      | (refine ⟨_, fun w' hS => (by have c0 := hS.cell p0; have c1 := hS.cell p1; simp only [c0, c1, Result.andThen]; rfl), hK _ _ ?_⟩; clear hK K)
      | (refine ⟨_, fun w' hS => (by have c0 := hS.cell q0; have c1 := hS.cell q1; simp only [c0, c1, Result.andThen]; rfl), hK _ _ ?_⟩; clear hK K)
      | (go_at_call 15; refine (less_calls _ a1 _ (C4.kept ((Kept.refl _).drewN _))).mono ?_; rintro e wf ⟨v4, rfl, B4, K6⟩; refine ⟨((Kept.refl _).drewN _).trans K6, hK _ _ ?_⟩; clear hK K)
      | (go_at_call 13; refine (plus_calls _ _ a0 (-a1) _ (C3.kept (((Kept.refl _).drewN _).trans K6)) B4 (lim64 b0 b0') (by rw [Int.natAbs_neg]; exact lim64 b1 b1')).mono ?_; rintro e wg ⟨v5, rfl, B5, K7⟩; refine ⟨(((Kept.refl _).drewN _).trans K6).trans K7, hK _ _ ?_⟩; clear hK K)
      | (go_at_call 12; refine (narrow_calls v5 _ _ B5).mono ?_; rintro e wh ⟨rfl, K8⟩; refine ⟨((((Kept.refl _).drewN _).trans K6).trans K7).trans K8, hK _ _ ?_⟩; clear hK K)
  refine Ord.done ?_
  rw [← Int.sub_eq_add_neg, HD.out]
  have KH : Kept we wh := (((((Kept.refl _).drewN _).trans K6).trans K7).trans K8)
  have r0 := KH.cell p0
  have r1 := KH.cell p1
  have t0 := KH.cell q0
  have t1 := KH.cell q1
  have C5 := C3.kept KH
  have C6 := C4.kept KH
  have KG := KE.trans KH
  clear KH K6 K7 K8 B4 B5 C3 C4 p0 p1 q0 q1 KE
  go_wp2_with fail
  refine (mul_calls a0 a1 _ b0 b0' b1 b1').mono ?_
  rintro e wi ⟨rfl, K9⟩
  generalize hp : narrow (a0 * a1) = p
  have HP := hid_of hp
  clear hp
  have u0 := K9.cell r0
  have u1 := K9.cell r1
  have x0 := K9.cell t0
  have x1 := K9.cell t1
  go_wp2_with fail
  refine (times_calls _ _ a0 a1 _ (C5.kept K9) (C6.kept K9) (lim64 b0 b0') (lim64 b1 b1')).mono ?_
  rintro e wj ⟨v6, rfl, B6, K10⟩
  go_wp2_with fail
  refine (narrow_calls v6 _ _ B6).mono ?_
  rintro e wk ⟨rfl, K11⟩
  rw [HP.out]
  go_wp2
  go_ret
  exact ⟨rfl, ((KG.trans K9).trans K10).trans K11⟩
end Go.Proofs.Ytalofkabkcpicaa
