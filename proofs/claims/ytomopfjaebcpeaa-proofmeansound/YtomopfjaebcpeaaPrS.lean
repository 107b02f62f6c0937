/- awake. -/
import Derived.Test.YtomopfjaebcpeaaPrR
import Derived.Test.YtomopfjaebcpeaaPrM
import Derived.Deep.DeepCutAuto
import Derived.Deep.CutBlock
namespace Go.Proofs.Ytomopfjaebcpeaa
open Go.RowKit

/-- The edge of the first graph, and of the second. -/
def ea : List Ed := [⟨0, 1, 3, 2⟩]
def eb1 : List Ed := [⟨0, 0, 0, 5⟩]
theorem ea_fault : faultOf 2 ea = (0, 0) := by decide
theorem eb_fault : faultOf 1 eb1 = (0, 0) := by decide

theorem awake_max3 : maxAns 2 ea 1 0 1 [3] 1 [true, false] 2 = (3, 0) := by
  unfold maxAns
  rw [ea_fault, if_neg (by decide), if_neg (by decide), if_neg (by decide), if_pos]
  · decide
  · refine ⟨⟨rfl, fun i hi => ?_⟩, rfl, fun v hv => ?_, ⟨rfl, rfl⟩, by decide⟩
    · obtain rfl : i = 0 := by omega
      decide
    · have hv2 : v < 2 := hv
      have : v = 0 ∨ v = 1 := by omega
      rcases this with rfl | rfl
      · exact .inr (.inl rfl)
      · exact .inr (.inr rfl)
theorem awake_max2 : maxAns 2 ea 1 0 1 [2] 1 [true, false] 2 = (0, 221) := by
  unfold maxAns
  rw [ea_fault, if_neg (by decide), if_neg (by decide), if_neg (by decide), if_neg]
  rintro ⟨-, -, -, -, h⟩
  exact absurd h (by decide)
theorem awake_plan : planAns 2 ea 1 [1, -1] 2 [1] 1 [0, 2] 2 = (2, 0) := by
  unfold planAns
  rw [ea_fault, if_neg (by decide), if_neg, if_pos]
  · decide
  · refine ⟨⟨rfl, fun i hi => ?_⟩, ⟨rfl, fun i hi => ?_⟩, fun v hv => ?_, fun i hi => ?_⟩
    · obtain rfl : i = 0 := by omega
      decide
    · have hv2 : i < 2 := hi
      have : i = 0 ∨ i = 1 := by omega
      rcases this with rfl | rfl <;> decide
    · have hv2 : v < 2 := hv
      have : v = 0 ∨ v = 1 := by omega
      rcases this with rfl | rfl <;> decide
    · obtain rfl : i = 0 := by omega
      exact ⟨.inl (by decide), .inl (by decide)⟩
  · refine fun t => t ⟨rfl, fun i hi => ?_, by decide⟩
    have hv2 : i < 2 := hi
    have : i = 0 ∨ i = 1 := by omega
    rcases this with rfl | rfl <;> decide
theorem awake_post : postAns 1 eb1 1 [1] 1 [0] 1 = (5, 0) := by
  unfold postAns
  rw [eb_fault, if_neg (by decide), if_neg, if_pos]
  · decide
  · refine ⟨⟨rfl, fun i hi => ?_⟩, fun v hv => ?_, fun i hi => ?_, ⟨rfl, fun i hi => ?_⟩, fun i hi => ?_⟩
    · obtain rfl : i = 0 := by omega
      decide
    · have hv2 : v < 1 := hv
      obtain rfl : v = 0 := by omega
      decide
    · obtain rfl : i = 0 := by omega
      exact .refl _
    · have hv2 : i < 1 := hi
      obtain rfl : i = 0 := by omega
      decide
    · obtain rfl : i = 0 := by omega
      exact .inr ⟨by decide, by decide⟩
  · refine fun t => t (fun i hi => ?_)
    obtain rfl : i = 0 := by omega
    decide
theorem awake_mean {p q code : Int} (h : MeanAns 1 eb1 1 [0] 1 [7] 1 p q code) : p = 5 ∧ q = 1 ∧ code = 0 := by
  rcases h with ⟨h, -⟩ | ⟨-, ⟨-, hl, hc⟩ | ⟨hno, -⟩⟩
  · rw [eb_fault] at h; exact absurd rfl h
  · obtain ⟨h1, h2, h3, h4, h5, h6⟩ := hl
    have e : csum eb1 [0] 1 = 5 := by decide
    rw [e] at h5
    have e5 : p = 5 * q := by omega
    rw [e5] at h6
    have h7 : q ∣ ((Int.gcd (5 * q) q : Nat) : Int) := Int.dvd_coe_gcd ⟨5, by omega⟩ (Int.dvd_refl q)
    rw [h6] at h7
    have := Int.le_of_dvd (by decide) h7
    exact ⟨by omega, by omega, hc⟩
  · refine absurd ⟨⟨by decide, fun j hj => ?_, fun k hk => ?_, fun k hk j hj => by omega⟩, ⟨rfl, fun i hi => ?_⟩, fun i hi => ?_⟩ hno
    · obtain rfl : j = 0 := by omega
      decide
    · obtain rfl : k = 0 := by omega
      decide
    · have hv2 : i < 1 := hi
      obtain rfl : i = 0 := by omega
      decide
    · obtain rfl : i = 0 := by omega
      decide

theorem jrow1 (W : World) (a : Int) (T : TypeId) (H : Nat) (h : W.heap.size = H) : JRow (W.alloc (Obj.cells #[.int .i64 a] T)) (some ⟨H, 0, none⟩) 1 1 [a] := by
  subst h
  refine ⟨rfl, Nat.le_refl _, by unfold maxLen; omega, fun _ => ⟨_, 0, rfl, fun i hi => ?_⟩⟩
  obtain rfl : i = 0 := by omega
  simp [go_sem]
theorem jrow2 (W : World) (a b : Int) (T : TypeId) (H : Nat) (h : W.heap.size = H) : JRow (W.alloc (Obj.cells #[.int .i64 a, .int .i64 b] T)) (some ⟨H, 0, none⟩) 2 2 [a, b] := by
  subst h
  refine ⟨rfl, Nat.le_refl _, by unfold maxLen; omega, fun _ => ⟨_, 0, rfl, fun i hi => ?_⟩⟩
  have : i = 0 ∨ i = 1 := by omega
  rcases this with rfl | rfl <;> simp [go_sem]
theorem brow2 (W : World) (a b : Bool) (T : TypeId) (H : Nat) (h : W.heap.size = H) : BRow (W.alloc (Obj.cells #[.bool a, .bool b] T)) (some ⟨H, 0, none⟩) 2 2 [a, b] := by
  subst h
  refine ⟨rfl, Nat.le_refl _, by unfold maxLen; omega, fun _ => ⟨_, 0, rfl, fun i hi => ?_⟩⟩
  have : i = 0 ∨ i = 1 := by omega
  rcases this with rfl | rfl <;> simp [go_sem]
theorem erow1 (W : World) (e : Ed) (T : TypeId) (H : Nat) (h : W.heap.size = H) : ERow (W.alloc (Obj.cells #[.int .i64 e.f, .int .i64 e.t, .int .i64 e.c, .int .i64 e.k] T)) (some ⟨H, 0, none⟩) 1 1 [e] := by
  subst h
  refine ⟨rfl, Nat.le_refl _, by unfold maxLen; omega, fun _ => ⟨_, 0, rfl, fun i hi => ?_⟩⟩
  obtain rfl : i = 0 := by omega
  refine ⟨?_, ?_, ?_, ?_⟩ <;> simp [go_sem, edAt]

set_option maxRecDepth 100000 in
set_option linter.unusedSimpArgs false in
set_option maxHeartbeats 4000000 in
theorem awake_calls (w : World) : Calls Try.prog 15 #[] w fun v w' => v = .returned (.bool true) ∧ Kept w w' := by
  have KG : Kept w ((w.alloc (Obj.cells #[.int .i64 0, .int .i64 1, .int .i64 3, .int .i64 2] 98)).alloc (Obj.cells #[.int .i64 2, .slice (some ⟨w.heap.size, 0, none⟩) 1 1] 24)) := ((Kept.refl w).alloc _).alloc _
  have HE : Hid (ERow ((w.alloc (Obj.cells #[.int .i64 0, .int .i64 1, .int .i64 3, .int .i64 2] 98)).alloc (Obj.cells #[.int .i64 2, .slice (some ⟨w.heap.size, 0, none⟩) 1 1] 24)) (some ⟨w.heap.size, 0, none⟩) 1 1 ea) := (erow1 w ⟨0, 1, 3, 2⟩ 98 _ rfl).kept ((Kept.refl _).alloc _)
  have g0 : ((w.alloc (Obj.cells #[.int .i64 0, .int .i64 1, .int .i64 3, .int .i64 2] 98)).alloc (Obj.cells #[.int .i64 2, .slice (some ⟨w.heap.size, 0, none⟩) 1 1] 24)).cell? ⟨w.heap.size + 1, 0, none⟩ = some (.int .i64 2) := by simp [go_sem]
  have g1 : ((w.alloc (Obj.cells #[.int .i64 0, .int .i64 1, .int .i64 3, .int .i64 2] 98)).alloc (Obj.cells #[.int .i64 2, .slice (some ⟨w.heap.size, 0, none⟩) 1 1] 24)).cell? ⟨w.heap.size + 1, 1, none⟩ = some (.slice (some ⟨w.heap.size, 0, none⟩) 1 1) := by simp [go_sem]
  go_enter Try.func15, Try.ntmps15
  go_upto_region 2 with fail
  generalize (w.alloc (Obj.cells #[.int .i64 0, .int .i64 1, .int .i64 3, .int .i64 2] 98)).alloc (Obj.cells #[.int .i64 2, .slice (some ⟨w.heap.size, 0, none⟩) 1 1] 24) = W1 at KG HE g0 g1 ⊢
  have KGH := hid_of KG
  clear KG
  go_wp2_with fail
  have K := ((Kept.refl W1).alloc (Obj.cells #[.int .i64 3] 2)).alloc (Obj.cells #[.bool true, .bool false] 4)
  refine (max_calls 2 (some ⟨w.heap.size, 0, none⟩) 1 1 ea 0 1 (some ⟨W1.heap.size, 0, none⟩) 1 1 [3] (some ⟨W1.heap.size + 1, 0, none⟩) 2 2 [true, false] _ (HE.out.kept K) ((jrow1 W1 3 2 _ rfl).kept ((Kept.refl _).alloc _)) (brow2 (W1.alloc (Obj.cells #[.int .i64 3] 2)) true false 4 _ (by simp)) 3 0 (hid_of awake_max3)).mono ?_
  rintro v w2 ⟨rfl, K2⟩
  replace g0 := (K.trans K2).cell g0
  replace g1 := (K.trans K2).cell g1
  have HE2 := hid_of (HE.out.kept (K.trans K2))
  have KH2 := hid_of (KGH.out.trans (K.trans K2))
  clear K K2 HE KGH
  go_wp2_with fail
  have K := ((Kept.refl w2).alloc (Obj.cells #[.int .i64 2] 2)).alloc (Obj.cells #[.bool true, .bool false] 4)
  refine (max_calls 2 (some ⟨w.heap.size, 0, none⟩) 1 1 ea 0 1 (some ⟨w2.heap.size, 0, none⟩) 1 1 [2] (some ⟨w2.heap.size + 1, 0, none⟩) 2 2 [true, false] _ (HE2.out.kept K) ((jrow1 w2 2 2 _ rfl).kept ((Kept.refl _).alloc _)) (brow2 (w2.alloc (Obj.cells #[.int .i64 2] 2)) true false 4 _ (by simp)) 0 221 (hid_of awake_max2)).mono ?_
  rintro v w3 ⟨rfl, K2⟩
  replace g0 := (K.trans K2).cell g0
  replace g1 := (K.trans K2).cell g1
  have HE3 := hid_of (HE2.out.kept (K.trans K2))
  have KH3 := hid_of (KH2.out.trans (K.trans K2))
  clear K K2 HE2 KH2
  go_wp2_with fail
  have K := (((Kept.refl w3).alloc (Obj.cells #[.int .i64 1, .int .i64 (-1)] 2)).alloc (Obj.cells #[.int .i64 1] 2)).alloc (Obj.cells #[.int .i64 0, .int .i64 2] 2)
  refine (plan_calls 2 (some ⟨w.heap.size, 0, none⟩) 1 1 ea (some ⟨w3.heap.size, 0, none⟩) 2 2 [1, -1] (some ⟨w3.heap.size + 1, 0, none⟩) 1 1 [1] (some ⟨w3.heap.size + 1 + 1, 0, none⟩) 2 2 [0, 2] _ (HE3.out.kept K) ((jrow2 w3 1 (-1) 2 _ rfl).kept (((Kept.refl _).alloc _).alloc _)) ((jrow1 (w3.alloc (Obj.cells #[.int .i64 1, .int .i64 (-1)] 2)) 1 2 _ (by simp)).kept ((Kept.refl _).alloc _)) (jrow2 ((w3.alloc (Obj.cells #[.int .i64 1, .int .i64 (-1)] 2)).alloc (Obj.cells #[.int .i64 1] 2)) 0 2 2 _ (by simp)) 2 0 (hid_of awake_plan)).mono ?_
  rintro v w4 ⟨rfl, K2⟩
  have KH4 := hid_of (KH3.out.trans (K.trans K2))
  clear K K2 HE3 KH3 g0 g1
  have KG : Kept w4 ((w4.alloc (Obj.cells #[.int .i64 0, .int .i64 0, .int .i64 0, .int .i64 5] 98)).alloc (Obj.cells #[.int .i64 1, .slice (some ⟨w4.heap.size, 0, none⟩) 1 1] 24)) := ((Kept.refl w4).alloc _).alloc _
  have HE : Hid (ERow ((w4.alloc (Obj.cells #[.int .i64 0, .int .i64 0, .int .i64 0, .int .i64 5] 98)).alloc (Obj.cells #[.int .i64 1, .slice (some ⟨w4.heap.size, 0, none⟩) 1 1] 24)) (some ⟨w4.heap.size, 0, none⟩) 1 1 eb1) := (erow1 w4 ⟨0, 0, 0, 5⟩ 98 _ rfl).kept ((Kept.refl _).alloc _)
  have g0 : ((w4.alloc (Obj.cells #[.int .i64 0, .int .i64 0, .int .i64 0, .int .i64 5] 98)).alloc (Obj.cells #[.int .i64 1, .slice (some ⟨w4.heap.size, 0, none⟩) 1 1] 24)).cell? ⟨w4.heap.size + 1, 0, none⟩ = some (.int .i64 1) := by simp [go_sem]
  have g1 : ((w4.alloc (Obj.cells #[.int .i64 0, .int .i64 0, .int .i64 0, .int .i64 5] 98)).alloc (Obj.cells #[.int .i64 1, .slice (some ⟨w4.heap.size, 0, none⟩) 1 1] 24)).cell? ⟨w4.heap.size + 1, 1, none⟩ = some (.slice (some ⟨w4.heap.size, 0, none⟩) 1 1) := by simp [go_sem]
  go_upto_region 6 with fail
  generalize (w4.alloc (Obj.cells #[.int .i64 0, .int .i64 0, .int .i64 0, .int .i64 5] 98)).alloc (Obj.cells #[.int .i64 1, .slice (some ⟨w4.heap.size, 0, none⟩) 1 1] 24) = W5 at KG HE g0 g1 ⊢
  have KGH := hid_of (KH4.out.trans KG)
  clear KG KH4
  go_wp2_with fail
  have K := ((Kept.refl W5).alloc (Obj.cells #[.int .i64 0] 3)).alloc (Obj.cells #[.int .i64 7] 2)
  refine (mean_calls 1 (some ⟨w4.heap.size, 0, none⟩) 1 1 eb1 (some ⟨W5.heap.size, 0, none⟩) 1 1 [0] (some ⟨W5.heap.size + 1, 0, none⟩) 1 1 [7] _ (HE.out.kept K) ((jrow1 W5 0 3 _ rfl).kept ((Kept.refl _).alloc _)) (jrow1 (W5.alloc (Obj.cells #[.int .i64 0] 3)) 7 2 _ (by simp))).mono ?_
  rintro v w6 ⟨⟨p, q, code, hans, rfl⟩, K2⟩
  obtain ⟨rfl, rfl, rfl⟩ := awake_mean hans
  replace g0 := (K.trans K2).cell g0
  replace g1 := (K.trans K2).cell g1
  have HE6 := hid_of (HE.out.kept (K.trans K2))
  have KH6 := hid_of (KGH.out.trans (K.trans K2))
  clear K K2 HE KGH hans
  have KR : Kept w6 (w6.alloc (Obj.cells #[.int .i64 5, .int .i64 1] 47)) := (Kept.refl w6).alloc _
  have r0 : (w6.alloc (Obj.cells #[.int .i64 5, .int .i64 1] 47)).cell? ⟨w6.heap.size, 0, none⟩ = some (.int .i64 5) := by simp [go_sem]
  have r1 : (w6.alloc (Obj.cells #[.int .i64 5, .int .i64 1] 47)).cell? ⟨w6.heap.size, 1, none⟩ = some (.int .i64 1) := by simp [go_sem]
  replace g0 := KR.cell g0
  replace g1 := KR.cell g1
  have HE7 := hid_of (HE6.out.kept KR)
  have KH7 := hid_of (KH6.out.trans KR)
  go_upto_region 7 with fail
  generalize w6.alloc (Obj.cells #[.int .i64 5, .int .i64 1] 47) = W7 at KR g0 g1 r0 r1 HE7 KH7 ⊢
  clear KR HE6 KH6
  go_wp2_with fail
  have K := ((Kept.refl W7).alloc (Obj.cells #[.int .i64 1] 2)).alloc (Obj.cells #[.int .i64 0] 2)
  refine (post_calls 1 (some ⟨w4.heap.size, 0, none⟩) 1 1 eb1 (some ⟨W7.heap.size, 0, none⟩) 1 1 [1] (some ⟨W7.heap.size + 1, 0, none⟩) 1 1 [0] _ (HE7.out.kept K) ((jrow1 W7 1 2 _ rfl).kept ((Kept.refl _).alloc _)) (jrow1 (W7.alloc (Obj.cells #[.int .i64 1] 2)) 0 2 _ (by simp)) 5 0 (hid_of awake_post)).mono ?_
  rintro v w8 ⟨rfl, K2⟩
  replace r0 := (K.trans K2).cell r0
  replace r1 := (K.trans K2).cell r1
  have KH8 := hid_of (KH7.out.trans (K.trans K2))
  clear K K2 HE7 KH7 g0 g1
  go_wp2
  go_ret
  exact ⟨rfl, KH8.out⟩
end Go.Proofs.Ytomopfjaebcpeaa
