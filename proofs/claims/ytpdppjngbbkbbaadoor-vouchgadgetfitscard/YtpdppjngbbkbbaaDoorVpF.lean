/- awake. -/
import Derived.Test.YtpdppjngbbkbbaaDoorVpE
namespace Go.Proofs.YtpdppjngbbkbbaaDoor
open Go.RowKit

theorem jrow1 (W : World) (a : Int) (T : TypeId) (H : Nat) (h : W.heap.size = H) : JRow (W.alloc (Obj.cells #[.int .i64 a] T)) (some ⟨H, 0, none⟩) 1 1 [a] := by
  subst h
  refine ⟨rfl, Nat.le_refl _, by unfold maxLen; omega, fun _ => ⟨_, 0, rfl, fun i hi => ?_⟩⟩
  obtain rfl : i = 0 := by omega
  simp [go_sem]
theorem jrow2 (W : World) (a b : Int) (T : TypeId) (H : Nat) (h : W.heap.size = H) : JRow (W.alloc (Obj.cells #[.int .i64 a, .int .i64 b] T)) (some ⟨H, 0, none⟩) 2 2 [a, b] := by
  subst h
  refine ⟨rfl, Nat.le_refl _, by unfold maxLen; omega, fun _ => ⟨_, 0, rfl, fun i hi => ?_⟩⟩
  have : i = 0 ∨ i = 1 := by omega
  rcases this with rfl | rfl <;> simp [go_sem]
theorem jrow0 (W : World) : JRow W none 0 0 [] := ⟨rfl, Nat.le_refl _, by unfold maxLen; omega, fun h => absurd h (by omega)⟩
theorem drow0 (W : World) : DRow W none 0 0 [] := ⟨rfl, Nat.le_refl _, by unfold maxLen; omega, fun h => absurd h (by omega)⟩
theorem erow1 (W : World) (e : Ed) (T : TypeId) (H : Nat) (h : W.heap.size = H) : ERow (W.alloc (Obj.cells #[.int .i64 e.f, .int .i64 e.t, .int .i64 e.c, .int .i64 e.k] T)) (some ⟨H, 0, none⟩) 1 1 [e] := by
  subst h
  refine ⟨rfl, Nat.le_refl _, by unfold maxLen; omega, fun _ => ⟨_, 0, rfl, fun i hi => ?_⟩⟩
  obtain rfl : i = 0 := by omega
  refine ⟨?_, ?_, ?_, ?_⟩ <;> simp [go_sem, edAt]
theorem lrow2 (W : World) (a b c d : Int) (T U : TypeId) (H : Nat) (h : W.heap.size = H) : LRow (((W.alloc (Obj.cells #[.int .i64 a, .int .i64 b] T)).alloc (Obj.cells #[.int .i64 c, .int .i64 d] T)).alloc (Obj.cells #[.slice (some ⟨H, 0, none⟩) 2 2, .slice (some ⟨H + 1, 0, none⟩) 2 2] U)) (some ⟨H + 1 + 1, 0, none⟩) 2 2 [[a, b], [c, d]] := by
  refine ⟨rfl, Nat.le_refl _, by unfold maxLen; omega, fun _ => ⟨_, 0, rfl, fun i hi => ?_⟩⟩
  rcases two_cases hi with rfl | rfl
  · exact ⟨some ⟨H, 0, none⟩, 2, 2, by subst h; simp [go_sem], ((jrow2 W a b T H h).kept ((Kept.refl _).alloc _)).kept ((Kept.refl _).alloc _)⟩
  · exact ⟨some ⟨H + 1, 0, none⟩, 2, 2, by subst h; simp [go_sem], (jrow2 _ c d T (H + 1) (by simp [h])).kept ((Kept.refl _).alloc _)⟩

set_option maxRecDepth 100000 in
set_option linter.unusedSimpArgs false in
set_option maxHeartbeats 4000000 in
theorem awake_calls (w : World) : Calls Tryd.prog 16 #[] w fun v w' => v = .returned (.bool true) ∧ Kept w w' := by
  have KG : Kept w ((w.alloc (Obj.cells #[.int .i64 0, .int .i64 1, .int .i64 0, .int .i64 2] 86)).alloc (Obj.cells #[.int .i64 2, .slice (some ⟨w.heap.size, 0, none⟩) 1 1] 24)) := ((Kept.refl w).alloc _).alloc _
  have HE : Hid (ERow ((w.alloc (Obj.cells #[.int .i64 0, .int .i64 1, .int .i64 0, .int .i64 2] 86)).alloc (Obj.cells #[.int .i64 2, .slice (some ⟨w.heap.size, 0, none⟩) 1 1] 24)) (some ⟨w.heap.size, 0, none⟩) 1 1 ea2) := (erow1 w ⟨0, 1, 0, 2⟩ 86 _ rfl).kept ((Kept.refl _).alloc _)
  have g0 : ((w.alloc (Obj.cells #[.int .i64 0, .int .i64 1, .int .i64 0, .int .i64 2] 86)).alloc (Obj.cells #[.int .i64 2, .slice (some ⟨w.heap.size, 0, none⟩) 1 1] 24)).cell? ⟨w.heap.size + 1, 0, none⟩ = some (.int .i64 2) := by simp [go_sem]
  have g1 : ((w.alloc (Obj.cells #[.int .i64 0, .int .i64 1, .int .i64 0, .int .i64 2] 86)).alloc (Obj.cells #[.int .i64 2, .slice (some ⟨w.heap.size, 0, none⟩) 1 1] 24)).cell? ⟨w.heap.size + 1, 1, none⟩ = some (.slice (some ⟨w.heap.size, 0, none⟩) 1 1) := by simp [go_sem]
  go_enter Tryd.func16, Tryd.ntmps16
  go_upto_region 2 with fail
  generalize (w.alloc (Obj.cells #[.int .i64 0, .int .i64 1, .int .i64 0, .int .i64 2] 86)).alloc (Obj.cells #[.int .i64 2, .slice (some ⟨w.heap.size, 0, none⟩) 1 1] 24) = W1 at KG HE g0 g1 ⊢
  have KGH := hid_of KG
  obtain ⟨eb, heb⟩ : ∃ eb, w.heap.size = eb := ⟨_, rfl⟩
  rw [heb] at HE g0 g1
  have G0 := hid_of g0
  have G1 := hid_of g1
  clear KG
  simp only [heb]
  clear heb
  -- Covered
  go_wp2_with fail
  have K := ((Kept.refl W1).alloc (Obj.cells #[.int .i64 0] 3)).alloc (Obj.cells #[.int .i64 1] 3)
  refine (covered_calls 2 (some ⟨eb, 0, none⟩) 1 1 ea2 (some ⟨W1.heap.size, 0, none⟩) 1 1 [0] (some ⟨W1.heap.size + 1, 0, none⟩) 1 1 [1] _ (HE.out.kept K) ((jrow1 W1 0 3 _ rfl).kept ((Kept.refl _).alloc _)) (jrow1 (W1.alloc (Obj.cells #[.int .i64 0] 3)) 1 3 _ (by simp)) 1 0 (hid_of aw_cov)).mono ?_
  rintro v w2 ⟨rfl, K2⟩
  have KW := hid_of (K.trans K2)
  replace g0 := KW.out.cell G0.out
  replace g1 := KW.out.cell G1.out
  clear K K2
  -- Heaviest
  go_wp2_with fail
  have K := ((Kept.refl w2).alloc (Obj.cells #[.int .i64 0] 3)).alloc (Obj.cells #[.int .i64 2, .int .i64 0] 2)
  refine (heavy_calls 2 (some ⟨eb, 0, none⟩) 1 1 ea2 (some ⟨w2.heap.size, 0, none⟩) 1 1 [0] (some ⟨w2.heap.size + 1, 0, none⟩) 2 2 [2, 0] _ (HE.out.kept (KW.out.trans K)) ((jrow1 w2 0 3 _ rfl).kept ((Kept.refl _).alloc _)) (jrow2 (w2.alloc (Obj.cells #[.int .i64 0] 3)) 2 0 2 _ (by simp)) 2 0 (hid_of aw_hvy)).mono ?_
  rintro v w3 ⟨rfl, K2⟩
  replace KW := hid_of (KW.out.trans (K.trans K2))
  replace g0 := KW.out.cell G0.out
  replace g1 := KW.out.cell G1.out
  clear K K2
  -- Largest
  go_wp2_with fail
  have K := ((Kept.refl w3).alloc (Obj.cells #[.int .i64 0] 3))
  refine (large_calls 2 (some ⟨eb, 0, none⟩) 1 1 ea2 (some ⟨w3.heap.size, 0, none⟩) 1 1 [0] none 0 0 [] _ (HE.out.kept (KW.out.trans K)) (jrow1 w3 0 3 _ rfl) (jrow0 _) 1 0 (hid_of aw_lar)).mono ?_
  rintro v w4 ⟨rfl, K2⟩
  replace KW := hid_of (KW.out.trans (K.trans K2))
  replace g0 := KW.out.cell G0.out
  replace g1 := KW.out.cell G1.out
  clear K K2
  -- Cheapest
  go_wp2_with fail
  have K := ((Kept.refl w4).alloc (Obj.cells #[.int .i64 0] 3)).alloc (Obj.cells #[.int .i64 3, .int .i64 1] 2)
  refine (cheap_calls 2 (some ⟨eb, 0, none⟩) 1 1 ea2 (some ⟨w4.heap.size, 0, none⟩) 1 1 [0] (some ⟨w4.heap.size + 1, 0, none⟩) 2 2 [3, 1] none 0 0 [] _ (HE.out.kept (KW.out.trans K)) ((jrow1 w4 0 3 _ rfl).kept ((Kept.refl _).alloc _)) (jrow2 (w4.alloc (Obj.cells #[.int .i64 0] 3)) 3 1 2 _ (by simp)) (drow0 _) (fun N hN => pairW_none N hN _ _ _ _ _ _ _ _ (jrow2 (w4.alloc (Obj.cells #[.int .i64 0] 3)) 3 1 2 _ (by simp))) 2 0 (hid_of aw_chp)).mono ?_
  rintro v w5 ⟨rfl, K2⟩
  replace KW := hid_of (KW.out.trans (K.trans K2))
  replace g0 := KW.out.cell G0.out
  replace g1 := KW.out.cell G1.out
  clear K K2
  -- Gadget
  go_wp2_with fail
  have K := ((Kept.refl w5).alloc (Obj.cells #[.int .i64 1, .int .i64 1] 3))
  refine (gadget_calls 2 (some ⟨eb, 0, none⟩) 1 1 ea2 (some ⟨w5.heap.size, 0, none⟩) 2 2 [1, 1] _ (HE.out.kept (KW.out.trans K)) (jrow2 w5 1 1 3 _ rfl) 4 3 0 (hid_of aw_gad)).mono ?_
  rintro v w6 ⟨⟨ga, gc, rfl⟩, K2⟩
  replace KW := hid_of (KW.out.trans (K.trans K2))
  replace g0 := KW.out.cell G0.out
  replace g1 := KW.out.cell G1.out
  clear K K2
  have KB : Kept w6 (w6.alloc (Obj.cells #[.int .i64 4, .slice ga 3 gc] 24)) := (Kept.refl w6).alloc _
  have x0 : (w6.alloc (Obj.cells #[.int .i64 4, .slice ga 3 gc] 24)).cell? ⟨w6.heap.size, 0, none⟩ = some (.int .i64 4) := by simp [go_sem]
  have x1 : (w6.alloc (Obj.cells #[.int .i64 4, .slice ga 3 gc] 24)).cell? ⟨w6.heap.size, 1, none⟩ = some (.slice ga 3 gc) := by simp [go_sem]
  replace g0 := KB.cell g0
  replace g1 := KB.cell g1
  go_upto_region 7 with fail
  generalize w6.alloc (Obj.cells #[.int .i64 4, .slice ga 3 gc] 24) = W7 at KB x0 x1 g0 g1 ⊢
  replace KW := hid_of (KW.out.trans KB)
  obtain ⟨xb, hxb⟩ : ∃ xb, w6.heap.size = xb := ⟨_, rfl⟩
  rw [hxb] at x0 x1
  simp only [hxb]
  have X0 := hid_of x0
  have X1 := hid_of x1
  clear KB hxb x0 x1
  -- Many
  go_wp2_with fail
  have K := ((Kept.refl W7).alloc (Obj.cells #[.int .i64 1, .int .i64 1] 3)).alloc (Obj.cells #[.int .i64 0] 3)
  refine (many_calls 2 (some ⟨eb, 0, none⟩) 1 1 ea2 (some ⟨W7.heap.size, 0, none⟩) 2 2 [1, 1] (some ⟨W7.heap.size + 1, 0, none⟩) 1 1 [0] none 0 0 [] _ (HE.out.kept (KW.out.trans K)) ((jrow2 W7 1 1 3 _ rfl).kept ((Kept.refl _).alloc _)) (jrow1 (W7.alloc (Obj.cells #[.int .i64 1, .int .i64 1] 3)) 0 3 _ (by simp)) (jrow0 _) 1 0 (hid_of aw_man)).mono ?_
  rintro v w8 ⟨rfl, K2⟩
  have K7 := hid_of (K.trans K2)
  replace KW := hid_of (KW.out.trans K7.out)
  replace g0 := KW.out.cell G0.out
  replace g1 := KW.out.cell G1.out
  clear K K2
  -- Doubled
  go_wp2_with fail
  have K := (((((Kept.refl w8).alloc (Obj.cells #[.int .i64 0] 3)).alloc (Obj.cells #[.int .i64 0, .int .i64 2] 2)).alloc (Obj.cells #[.int .i64 2, .int .i64 0] 2)).alloc (Obj.cells #[.slice (some ⟨w8.heap.size + 1, 0, none⟩) 2 2, .slice (some ⟨w8.heap.size + 1 + 1, 0, none⟩) 2 2] 26)).alloc (Obj.cells #[.int .i64 2, .int .i64 2] 2)
  have D := lrow2 (w8.alloc (Obj.cells #[.int .i64 0] 3)) 0 2 2 0 2 26 (w8.heap.size + 1) (by simp)
  have Y2 := jrow2 ((((w8.alloc (Obj.cells #[.int .i64 0] 3)).alloc (Obj.cells #[.int .i64 0, .int .i64 2] 2)).alloc (Obj.cells #[.int .i64 2, .int .i64 0] 2)).alloc (Obj.cells #[.slice (some ⟨w8.heap.size + 1, 0, none⟩) 2 2, .slice (some ⟨w8.heap.size + 1 + 1, 0, none⟩) 2 2] 26)) 2 2 2 (w8.heap.size + 1 + 1 + 1 + 1) (by simp)
  refine (doubled_calls 2 (some ⟨eb, 0, none⟩) 1 1 ea2 (some ⟨w8.heap.size, 0, none⟩) 1 1 [0] (some ⟨w8.heap.size + 1 + 1 + 1, 0, none⟩) 2 2 [[0, 2], [2, 0]] (some ⟨w8.heap.size + 1 + 1 + 1 + 1, 0, none⟩) 2 2 [2, 2] none 0 0 [] _ (HE.out.kept (KW.out.trans K)) (((((jrow1 w8 0 3 _ rfl).kept ((Kept.refl _).alloc _)).kept ((Kept.refl _).alloc _)).kept ((Kept.refl _).alloc _)).kept ((Kept.refl _).alloc _)) (D.kept ((Kept.refl _).alloc _)) Y2 (drow0 _) (fun N hN => pairW_none N hN _ _ _ _ _ _ _ _ Y2) 4 0 (hid_of aw_dbl)).mono ?_
  rintro v w9 ⟨rfl, K2⟩
  have K8 := hid_of (K.trans K2)
  replace KW := hid_of (KW.out.trans K8.out)
  replace g0 := KW.out.cell G0.out
  replace g1 := KW.out.cell G1.out
  have x0 := (K7.out.trans K8.out).cell X0.out
  have x1 := (K7.out.trans K8.out).cell X1.out
  clear K K2 D Y2 K7 K8
  have NP := hid_of (noPerf_calls 2 (some ⟨eb, 0, none⟩) 1 1 ea2 none 0 0 [] w9 (HE.out.kept KW.out) (jrow0 _) 221 (hid_of aw_nop))
  have KWH := hid_of (KGH.out.trans KW.out)
  go_wp2_with fail
  refine NP.out.mono ?_
  rintro v wf ⟨rfl, KF⟩
  have KH := hid_of (KWH.out.trans KF)
  clear KF NP g0 g1 x0 x1
  go_wp2
  go_ret
  exact ⟨rfl, KH.out⟩
end Go.Proofs.YtpdppjngbbkbbaaDoor
