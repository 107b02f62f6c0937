/- VouchCovers: the walk of the law. -/
import Derived.Test.YtkpfnkpkmbfajaaDoorVmB
namespace Go.Proofs.YtkpfnkpkmbfajaaDoor
open Go.RowKit

set_option maxRecDepth 100000 in
set_option linter.unusedSimpArgs false in
set_option maxHeartbeats 4000000 in
theorem vouchCoversWalk (nodes : Int) (ao : Option Addr) (n cap : Nat) (es : List Ed) (mo : Option Addr) (lm mc : Nat) (m : List Int) (xo : Option Addr) (lx xc : Nat) (x : List Int) (po : Option Addr) (lp' pc : Nat) (p : List Int) (w : World) (h : ERow w ao n cap es) (hJ : JRow w mo lm mc m) (hX : JRow w xo lx xc x) (hP : JRow w po lp' pc p) :
    Calls Tryd.prog 3 #[.agg #[.int .i64 nodes, .slice ao n cap], .agg #[.slice mo lm mc, .slice xo lx xc, .slice po lp' pc]] w fun e w' => e = .returned (.bool true) ∧ Below w.heap.size w w' := by
  have hnot : ∀ (x : Bool) (w : World), (Op.unary .not (.bool x)).run Tryd.prog w = .ok (.bool (!x)) w := fun _ _ => rfl
  have KW : Kept w ((w.alloc (Obj.cells #[.int .i64 nodes, .slice ao n cap] 24)).alloc (Obj.cells #[.slice mo lm mc, .slice xo lx xc, .slice po lp' pc] 28)) := ((Kept.refl w).alloc _).alloc _
  have g0 : ((w.alloc (Obj.cells #[.int .i64 nodes, .slice ao n cap] 24)).alloc (Obj.cells #[.slice mo lm mc, .slice xo lx xc, .slice po lp' pc] 28)).cell? ⟨w.heap.size, 0, none⟩ = some (.int .i64 nodes) := by simp [go_sem]
  have g1 : ((w.alloc (Obj.cells #[.int .i64 nodes, .slice ao n cap] 24)).alloc (Obj.cells #[.slice mo lm mc, .slice xo lx xc, .slice po lp' pc] 28)).cell? ⟨w.heap.size, 1, none⟩ = some (.slice ao n cap) := by simp [go_sem]
  have c0 : ((w.alloc (Obj.cells #[.int .i64 nodes, .slice ao n cap] 24)).alloc (Obj.cells #[.slice mo lm mc, .slice xo lx xc, .slice po lp' pc] 28)).cell? ⟨w.heap.size + 1, 0, none⟩ = some (.slice mo lm mc) := by simp [go_sem]
  have c1 : ((w.alloc (Obj.cells #[.int .i64 nodes, .slice ao n cap] 24)).alloc (Obj.cells #[.slice mo lm mc, .slice xo lx xc, .slice po lp' pc] 28)).cell? ⟨w.heap.size + 1, 1, none⟩ = some (.slice xo lx xc) := by simp [go_sem]
  have c2 : ((w.alloc (Obj.cells #[.int .i64 nodes, .slice ao n cap] 24)).alloc (Obj.cells #[.slice mo lm mc, .slice xo lx xc, .slice po lp' pc] 28)).cell? ⟨w.heap.size + 1, 2, none⟩ = some (.slice po lp' pc) := by simp [go_sem]
  obtain ⟨v1, e1, A1⟩ : ∃ v c, covAns nodes es n m lm x lx = (v, c) := ⟨_, _, rfl⟩
  obtain ⟨v2, e2, A2⟩ : ∃ v c, hvyAns nodes es n m lm p lp' = (v, c) := ⟨_, _, rfl⟩
  obtain ⟨z, A3⟩ : ∃ z, matAns nodes es n m lm = z := ⟨_, rfl⟩
  have HE := hid_of h
  have HJ := hid_of hJ
  have HX := hid_of hX
  have HP := hid_of hP
  have HA1 := hid_of A1
  have HA2 := hid_of A2
  have HA3 := hid_of A3
  clear h hJ hX hP A1 A2 A3
  go_enter Tryd.func3, Tryd.ntmps3
  go_wp2_with fail
  generalize (w.alloc (Obj.cells #[.int .i64 nodes, .slice ao n cap] 24)).alloc (Obj.cells #[.slice mo lm mc, .slice xo lx xc, .slice po lp' pc] 28) = W1 at KW g0 g1 c0 c1 c2 ⊢
  have KWH := hid_of KW
  refine (awake_calls W1).mono ?_
  rintro v w2 ⟨rfl, K2⟩
  have K := hid_of K2
  replace g0 := K2.cell g0
  replace g1 := K2.cell g1
  replace c0 := K2.cell c0
  replace c1 := K2.cell c1
  replace c2 := K2.cell c2
  clear K2 KW
  go_wp2_with fail
  refine (covered_calls nodes ao n cap es mo lm mc m xo lx xc x w2 (HE.out.kept (KWH.out.trans K.out)) (HJ.out.kept (KWH.out.trans K.out)) (HX.out.kept (KWH.out.trans K.out)) v1 e1 HA1).mono ?_
  rintro v w3 ⟨rfl, K2⟩
  replace K := hid_of (K.out.trans K2)
  replace g0 := K2.cell g0
  replace g1 := K2.cell g1
  replace c0 := K2.cell c0
  replace c1 := K2.cell c1
  replace c2 := K2.cell c2
  clear K2
  go_wp2_with fail
  refine (coveredR_calls nodes ao n cap es mo lm mc m xo lx xc x w3 (HE.out.kept (KWH.out.trans K.out)) (HJ.out.kept (KWH.out.trans K.out)) (HX.out.kept (KWH.out.trans K.out)) v1 e1 HA1).mono ?_
  rintro v w4 ⟨rfl, K2⟩
  replace K := hid_of (K.out.trans K2)
  replace g0 := K2.cell g0
  replace g1 := K2.cell g1
  replace c0 := K2.cell c0
  replace c1 := K2.cell c1
  replace c2 := K2.cell c2
  clear K2
  go_wp2_with fail
  refine (heavy_calls nodes ao n cap es mo lm mc m po lp' pc p w4 (HE.out.kept (KWH.out.trans K.out)) (HJ.out.kept (KWH.out.trans K.out)) (HP.out.kept (KWH.out.trans K.out)) v2 e2 HA2).mono ?_
  rintro v w5 ⟨rfl, K2⟩
  replace K := hid_of (K.out.trans K2)
  replace g0 := K2.cell g0
  replace g1 := K2.cell g1
  replace c0 := K2.cell c0
  replace c1 := K2.cell c1
  replace c2 := K2.cell c2
  clear K2
  go_wp2_with fail
  refine (heaviestR_calls nodes ao n cap es mo lm mc m po lp' pc p w5 (HE.out.kept (KWH.out.trans K.out)) (HJ.out.kept (KWH.out.trans K.out)) (HP.out.kept (KWH.out.trans K.out)) v2 e2 HA2).mono ?_
  rintro v w6 ⟨rfl, K2⟩
  replace K := hid_of (K.out.trans K2)
  replace g0 := K2.cell g0
  replace g1 := K2.cell g1
  replace c0 := K2.cell c0
  replace c1 := K2.cell c1
  replace c2 := K2.cell c2
  clear K2
  have HK9 := hid_of (KWH.out.trans K.out)
  have MA := hid_of (fun w' (K' : Kept w6 w') => matching_calls nodes ao n cap es mo lm mc m w' (HE.out.kept (HK9.out.trans K')) (HJ.out.kept (HK9.out.trans K')) z HA3)
  have MR := hid_of (fun w' (K' : Kept w6 w') => matchingR_calls nodes ao n cap es mo lm mc m w' (HE.out.kept (HK9.out.trans K')) (HJ.out.kept (HK9.out.trans K')) z HA3)
  have b0 := c0
  have q1 : (v1 == v1) = true := by simp
  have q2 : (e1 == e1) = true := by simp
  have q3 : (v2 == v2) = true := by simp
  have q4 : (e2 == e2) = true := by simp
  have q5 : (z == z) = true := by simp
  clear HA1 HA2 HA3 c0 c1 c2 HP HE HJ HX K
  go_wp2_with fail
  refine Ord.region [(0, 0), (1, 0), (2, 0), (3, 0), (4, 0), (5, 0), (6, 0), (7, 0), (8, 0), (9, 0), (10, 0), (11, 0), (12, 0), (13, 0), (14, 0), (15, 0), (16, 0), (17, 0), (18, 0), (19, 1), (20, 0), (21, 1), (23, 1), (24, 0), (25, 1), (22, 2), (26, 2), (27, 0), (28, 0), (29, 0)] (fun w' => Kept w6 w') (by kernel_rfl) (by kernel_rfl) (by kernel_rfl) (by kernel_rfl) (fun _ _ d _ _ h => by cases d <;> exact h) ((Kept.refl _).drewN _) ?_
  repeat
    refine Ord.step rfl (fun Ko hK => ?_)
    simp only [Ord.body]
    go_simp
    first
      | (refine hK _ _ ?_; clear hK Ko)
      | (refine ⟨_, fun w' hS => (by have c0 := hS.cell g0; have c1 := hS.cell g1; have c2 := hS.cell b0; simp only [c0, c1, c2, Result.andThen]; rfl), hK _ _ ?_⟩; clear hK Ko)
      | (go_at_call 21; refine (MA.out _ ((Kept.refl _).drewN _)).mono ?_; rintro e wm ⟨rfl, KM⟩; refine ⟨((Kept.refl _).drewN _).trans KM, hK _ _ ?_⟩; clear hK Ko)
      | (go_at_call 22; refine (MR.out _ (((Kept.refl _).drewN _).trans KM)).mono ?_; rintro e wn ⟨rfl, KN⟩; refine ⟨(((Kept.refl _).drewN _).trans KM).trans KN, hK _ _ ?_⟩; clear hK Ko)
      | ((simp only [q1, q2, q3, q4, q5]))
  refine Ord.done ?_
  have KF := hid_of (HK9.out.trans ((((Kept.refl _).drewN 1).trans KM).trans KN))
  clear KM KN MA MR g0 g1 b0
  go_wp2
  go_ret
  exact ⟨rfl, KF.out⟩
end Go.Proofs.YtkpfnkpkmbfajaaDoor
