/- VouchEvens: the walk of the law. -/
import Derived.Test.YtpdppjngbbkbbaaDoorVmS
namespace Go.Proofs.YtpdppjngbbkbbaaDoor
open Go.RowKit

set_option maxRecDepth 100000 in
set_option linter.unusedSimpArgs false in
set_option maxHeartbeats 4000000 in
theorem vouchEvensWalk (nodes : Int) (ao : Option Addr) (n cap : Nat) (es : List Ed) (mo : Option Addr) (lm mc : Nat) (m : List Int) (dO : Option Addr) (nd dc : Nat) (ds : List (List Int)) (yo : Option Addr) (my yc : Nat) (Y : List Int) (so : Option Addr) (ns sc : Nat) (ss : Sets) (oo : Option Addr) (lo oc : Nat) (o : List Int) (w : World) (h : ERow w ao n cap es) (hJ : JRow w mo lm mc m) (hD : LRow w dO nd dc ds) (hY : JRow w yo my yc Y) (hS : DRow w so ns sc ss) (_hO : JRow w oo lo oc o) (hb : ns * 32 ≤ 140737488355328) (hT : Tab w) :
    Calls Tryd.prog 7 #[.agg #[.int .i64 nodes, .slice ao n cap], .agg #[.slice mo lm mc, .slice dO nd dc, .slice yo my yc, .slice so ns sc, .slice oo lo oc]] w fun e w' => e = .returned (.bool true) ∧ Below w.heap.size w w' := by
  have hnot : ∀ (x : Bool) (w : World), (Op.unary .not (.bool x)).run Tryd.prog w = .ok (.bool (!x)) w := fun _ _ => rfl
  have KW : Kept w ((w.alloc (Obj.cells #[.int .i64 nodes, .slice ao n cap] 24)).alloc (Obj.cells #[.slice mo lm mc, .slice dO nd dc, .slice yo my yc, .slice so ns sc, .slice oo lo oc] 67)) := ((Kept.refl w).alloc _).alloc _
  have g0 : ((w.alloc (Obj.cells #[.int .i64 nodes, .slice ao n cap] 24)).alloc (Obj.cells #[.slice mo lm mc, .slice dO nd dc, .slice yo my yc, .slice so ns sc, .slice oo lo oc] 67)).cell? ⟨w.heap.size, 0, none⟩ = some (.int .i64 nodes) := by simp [go_sem]
  have g1 : ((w.alloc (Obj.cells #[.int .i64 nodes, .slice ao n cap] 24)).alloc (Obj.cells #[.slice mo lm mc, .slice dO nd dc, .slice yo my yc, .slice so ns sc, .slice oo lo oc] 67)).cell? ⟨w.heap.size, 1, none⟩ = some (.slice ao n cap) := by simp [go_sem]
  have x0 : ((w.alloc (Obj.cells #[.int .i64 nodes, .slice ao n cap] 24)).alloc (Obj.cells #[.slice mo lm mc, .slice dO nd dc, .slice yo my yc, .slice so ns sc, .slice oo lo oc] 67)).cell? ⟨w.heap.size + 1, 0, none⟩ = some (.slice mo lm mc) := by simp [go_sem]
  have x1 : ((w.alloc (Obj.cells #[.int .i64 nodes, .slice ao n cap] 24)).alloc (Obj.cells #[.slice mo lm mc, .slice dO nd dc, .slice yo my yc, .slice so ns sc, .slice oo lo oc] 67)).cell? ⟨w.heap.size + 1, 1, none⟩ = some (.slice dO nd dc) := by simp [go_sem]
  have x2 : ((w.alloc (Obj.cells #[.int .i64 nodes, .slice ao n cap] 24)).alloc (Obj.cells #[.slice mo lm mc, .slice dO nd dc, .slice yo my yc, .slice so ns sc, .slice oo lo oc] 67)).cell? ⟨w.heap.size + 1, 2, none⟩ = some (.slice yo my yc) := by simp [go_sem]
  have x3 : ((w.alloc (Obj.cells #[.int .i64 nodes, .slice ao n cap] 24)).alloc (Obj.cells #[.slice mo lm mc, .slice dO nd dc, .slice yo my yc, .slice so ns sc, .slice oo lo oc] 67)).cell? ⟨w.heap.size + 1, 3, none⟩ = some (.slice so ns sc) := by simp [go_sem]
  obtain ⟨v1, e1, A1⟩ : ∃ v c, dblAns nodes es n m lm ds nd Y my ss ns = (v, c) := ⟨_, _, rfl⟩
  have HE := hid_of h
  have HJ := hid_of hJ
  have HD := hid_of hD
  have HY := hid_of hY
  have HS := hid_of hS
  have HT := hid_of hT
  have HBB := hid_of hb
  have HA1 := hid_of A1
  clear h hJ hD hY hS hT A1 hb _hO
  go_enter Tryd.func7, Tryd.ntmps7
  go_wp2_with fail
  generalize (w.alloc (Obj.cells #[.int .i64 nodes, .slice ao n cap] 24)).alloc (Obj.cells #[.slice mo lm mc, .slice dO nd dc, .slice yo my yc, .slice so ns sc, .slice oo lo oc] 67) = W1 at KW g0 g1 x0 x1 x2 x3 ⊢
  have KWH := hid_of KW
  refine (awake_calls W1).mono ?_
  rintro v w2 ⟨rfl, K2⟩
  have K := hid_of K2
  replace g0 := K2.cell g0
  replace g1 := K2.cell g1
  replace x0 := K2.cell x0
  replace x1 := K2.cell x1
  replace x2 := K2.cell x2
  replace x3 := K2.cell x3
  clear K2 KW
  go_wp2_with fail
  refine (doubled_calls nodes ao n cap es mo lm mc m dO nd dc ds yo my yc Y so ns sc ss w2 (HE.out.kept (KWH.out.trans K.out)) (HJ.out.kept (KWH.out.trans K.out)) (HD.out.kept (KWH.out.trans K.out)) (HY.out.kept (KWH.out.trans K.out)) (HS.out.kept (KWH.out.trans K.out)) (fun N hN => pairW_sets N hN yo my yc Y so ns sc ss w2 (HY.out.kept (KWH.out.trans K.out)) (HS.out.kept (KWH.out.trans K.out)) (HT.out.kept (KWH.out.trans K.out))) v1 e1 HA1).mono ?_
  rintro v w3 ⟨rfl, K2⟩
  replace K := hid_of (K.out.trans K2)
  replace g0 := K2.cell g0
  replace g1 := K2.cell g1
  replace x0 := K2.cell x0
  replace x1 := K2.cell x1
  replace x2 := K2.cell x2
  replace x3 := K2.cell x3
  clear K2
  have KA := hid_of (KWH.out.trans K.out)
  have PL := hid_of (fun w' (K' : Kept w3 w') => plain_calls yo my yc so ns sc ss w' (HS.out.kept (KA.out.trans K')) HBB.out)
  have CR := hid_of (fun w' (K' : Kept w3 w') qo qc (D : DRow w' qo ns qc ss) => doubledR_calls nodes ao n cap es mo lm mc m dO nd dc ds yo my yc Y qo ns qc ss w' (HE.out.kept (KA.out.trans K')) (HJ.out.kept (KA.out.trans K')) (HD.out.kept (KA.out.trans K')) (HY.out.kept (KA.out.trans K')) D v1 e1 HA1)
  have q1 : (v1 == v1) = true := by simp
  have q2 : (e1 == e1) = true := by simp
  clear HA1 HE HJ HD HY HS HT K
  go_wp2_with fail
  refine Ord.region [(0, 1), (1, 0), (2, 1), (3, 0), (4, 0), (5, 1), (6, 0), (7, 0), (8, 1), (9, 2), (10, 2), (11, 0), (12, 0), (13, 0), (14, 0), (15, 0)] (fun w' => Kept w3 w') (by kernel_rfl) (by kernel_rfl) (by kernel_rfl) (by kernel_rfl) (fun _ _ d _ _ h => by cases d <;> exact h) ((Kept.refl _).drewN _) ?_
  repeat
    refine Ord.step rfl (fun Ko hK => ?_)
    simp only [Ord.body]
    go_simp
    first
      | (refine hK _ _ ?_; clear hK Ko)
      | (refine ⟨_, fun w' hS => (by have c0 := hS.cell g0; have c1 := hS.cell g1; have c2 := hS.cell x0; have c3 := hS.cell x1; have c4 := hS.cell x2; have c5 := hS.cell x3; simp only [c0, c1, c2, c3, c4, c5, Result.andThen]; rfl), hK _ _ ?_⟩; clear hK Ko)
      | (go_at_call 29; refine (PL.out _ ((Kept.refl _).drewN _)).mono ?_; clear PL; rintro e wm ⟨qo, qc, rfl, D, KM⟩; refine ⟨((Kept.refl _).drewN _).trans KM, hK _ _ ?_⟩; clear hK Ko)
      | (go_at_call 36; refine (CR.out _ (((Kept.refl _).drewN _).trans KM) _ _ D).mono ?_; clear CR; rintro e wn ⟨rfl, KN⟩; refine ⟨(((Kept.refl _).drewN _).trans KM).trans KN, hK _ _ ?_⟩; clear hK Ko)
  refine Ord.done ?_
  have KF := hid_of (KA.out.trans ((((Kept.refl _).drewN 1).trans KM).trans KN))
  clear KM KN D g0 g1 x0 x1 x2 x3
  go_wp2
  go_ret
  exact ⟨rfl, KF.out⟩
end Go.Proofs.YtpdppjngbbkbbaaDoor
