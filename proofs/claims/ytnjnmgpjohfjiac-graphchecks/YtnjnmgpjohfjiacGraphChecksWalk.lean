/- GraphChecks: the walk of the law. -/
import Derived.Test.YtnjnmgpjohfjiacEdgeJ
namespace Go.Proofs.Ytnjnmgpjohfjiac
open Go.RowKit

theorem fault_eq (c a : Int) (w : World) : (binOp .eql 37 (.agg #[.int .i64 c, .int .i64 a]) (.agg #[.int .i64 c, .int .i64 a])).run Try.prog w = .ok (.bool true) w := by
  have hp : Try.prog.stoodInHeld 37 = false := by kernel_rfl
  have hu : Try.prog.underlying 37 = some (.struct (Try.prog.fieldsOf 37)) := by simp [Program.fieldsOf, Try.underlying37]
  rw [run_eql_struct, run_equalIn_agg w 9999 37 _ _ hu hp]
  simp [Program.fieldsOf, Try.underlying37, Op.eqFields, go_sem, Try.underlying3, Try.underlying28]

set_option maxRecDepth 100000 in
set_option linter.unusedSimpArgs false in
set_option maxHeartbeats 4000000 in
theorem graphChecksWalk (nodes : Int) (ao : Option Addr) (n cap : Nat) (es : List Ed) (w : World) (h : ERow w ao n cap es) (hb : n * 32 ≤ 140737488355328) (hnil : ao = none → n = 0 ∧ cap = 0) :
    Calls Try.prog 5 #[.agg #[.int .i64 nodes, .slice ao n cap]] w fun v w' => v = .returned (.bool true) ∧ Kept w w' := by
  obtain ⟨c, a, hf⟩ : ∃ c a, Hid (faultOf nodes es = (c, a)) := ⟨_, _, hid_of rfl⟩
  have hnot : ∀ (x : Bool) (w : World), (Op.unary .not (.bool x)).run Try.prog w = .ok (.bool (!x)) w := fun _ _ => rfl
  have KG : Kept w (w.alloc (Obj.cells #[.int .i64 nodes, .slice ao n cap] 34)) := (Kept.refl w).alloc _
  have g0 : (w.alloc (Obj.cells #[.int .i64 nodes, .slice ao n cap] 34)).cell? ⟨w.heap.size, 0, none⟩ = some (.int .i64 nodes) := by simp [go_sem]
  have g1 : (w.alloc (Obj.cells #[.int .i64 nodes, .slice ao n cap] 34)).cell? ⟨w.heap.size, 1, none⟩ = some (.slice ao n cap) := by simp [go_sem]
  have q1 : (c == c) = true := by simp
  have q2 : (a == a) = true := by simp
  have FE := fault_eq c a
  go_enter Try.func5, Try.ntmps5
  go_wp2_with fail
  refine (awake_calls _).mono ?_
  rintro v wa ⟨rfl, K1⟩
  have ga0 := K1.cell g0
  have ga1 := K1.cell g1
  have HA := hid_of (h.kept (KG.trans K1))
  clear h
  go_wp2_with fail
  refine (check_calls nodes ao n cap es wa HA.out c a hf).mono ?_
  rintro v wb ⟨rfl, K2⟩
  have K3 := K2.alloc (Obj.cells #[.int .i64 c, .int .i64 a] 37)
  have f0 : (wb.alloc (Obj.cells #[.int .i64 c, .int .i64 a] 37)).cell? ⟨wb.heap.size, 0, none⟩ = some (.int .i64 c) := by simp [go_sem]
  have f1 : (wb.alloc (Obj.cells #[.int .i64 c, .int .i64 a] 37)).cell? ⟨wb.heap.size, 1, none⟩ = some (.int .i64 a) := by simp [go_sem]
  have gb0 := K2.cell ga0
  have gb1 := K2.cell ga1
  have hb0 := K3.cell ga0
  have hb1 := K3.cell ga1
  have lg := lt_cell gb0
  simp only at lg
  have HB := hid_of (HA.out.kept K3)
  go_wp2_with fail
  refine (checkR_calls nodes ao n cap es _ HB.out c a hf).mono ?_
  rintro v wc ⟨rfl, K4⟩
  have fc0 := K4.cell f0
  have fc1 := K4.cell f1
  have gc0 := K4.cell hb0
  have gc1 := K4.cell hb1
  have HC := hid_of (HB.out.kept K4)
  clear gb0 gb1 hb0 hb1 f0 f1 HB
  go_wp2_with fail
  refine (from_calls nodes ao n cap es _ HC.out hb hnil c a hf).mono ?_
  rintro v wd ⟨ptr, rfl, K5, hp1, hp2⟩
  have K6 := K5.alloc (Obj.cells #[.int .i64 c, .int .i64 a] 37)
  have d0 := K6.cell fc0
  have d1 := K6.cell fc1
  have e0 := K6.cell gc0
  have e1 := K6.cell gc1
  have h0 : (wd.alloc (Obj.cells #[.int .i64 c, .int .i64 a] 37)).cell? ⟨wd.heap.size, 0, none⟩ = some (.int .i64 c) := by simp [go_sem]
  have h1 : (wd.alloc (Obj.cells #[.int .i64 c, .int .i64 a] 37)).cell? ⟨wd.heap.size, 1, none⟩ = some (.int .i64 a) := by simp [go_sem]
  have HD := hid_of (HC.out.kept K6)
  have KK := hid_of ((((KG.trans K1).trans K3).trans K4).trans K6)
  clear HC HA fc0 fc1 gc0 gc1 ga0 ga1 K2 K4 K1 K3
  go_wp2_with fail
  generalize wd.alloc (Obj.cells #[.int .i64 c, .int .i64 a] 37) = W1 at K6 d0 d1 e0 e1 h0 h1 HD KK ⊢
  have hz : (ptr.isNone == (c != 0)) = true := by
    by_cases hc : c = 0
    · obtain ⟨p, e, _⟩ := hp2 hc
      rw [e]; simp [hc]
    · rw [hp1 hc]; simpa using hc
  clear hp1 hp2 g0 g1
  refine Ord.region [(0, 0), (1, 1), (2, 0), (3, 0), (4, 0), (5, 0), (6, 1), (7, 0), (8, 0), (9, 0), (10, 0), (11, 1), (12, 1), (13, 0), (14, 0), (15, 0), (16, 0), (17, 0), (18, 0), (19, 0), (20, 0), (21, 0), (22, 0), (23, 1), (25, 1), (24, 2), (26, 2), (27, 2), (28, 0), (29, 0)] (fun w' => Kept W1 w') (by kernel_rfl) (by kernel_rfl) (by kernel_rfl) (by kernel_rfl) (fun _ _ d _ _ h => by cases d <;> exact h) ((Kept.refl _).drewN _) ?_
  repeat
    refine Ord.step rfl (fun Ko hK => ?_)
    simp only [Ord.body]
    go_simp
    first
      | (refine hK _ _ ?_; clear hK Ko)
      | (refine ⟨_, fun w' hS => (by have c0 := hS.cell d0; have c1 := hS.cell d1; simp only [c0, c1, Result.andThen]; rfl), hK _ _ ?_⟩; clear hK Ko)
      | (refine ⟨_, fun w' hS => (by have c0 := hS.cell h0; have c1 := hS.cell h1; simp only [c0, c1, Result.andThen]; rfl), hK _ _ ?_⟩; clear hK Ko)
      | (refine ⟨_, fun w' hS => (by have c0 := hS.cell e0; have c1 := hS.cell e1; simp only [c0, c1, Result.andThen]; rfl), hK _ _ ?_⟩; clear hK Ko)
      | (go_at_call 18; refine (rev_calls nodes ao n cap es _ (HD.out.kept ((Kept.refl _).drewN _)) hb hnil).mono ?_; rintro e we ⟨ao1, cap1, rfl, O1, K7⟩; refine ⟨((Kept.refl _).drewN _).trans K7, hK _ _ ?_⟩; clear hK Ko)
      | (go_at_call 19; refine (revR_calls nodes ao n cap es _ (HD.out.kept (((Kept.refl _).drewN _).trans K7)) hb).mono ?_; rintro e wf ⟨ao2, cap2, rfl, O2, K8⟩; refine ⟨(((Kept.refl _).drewN _).trans K7).trans K8, hK _ _ ?_⟩; clear hK Ko)
      | (go_at_call 17; refine (same_calls nodes ao1 ao2 n cap1 cap2 (es.map turn) _ ((ERow.of_owns O1).kept K8) (ERow.of_owns O2)).mono ?_; rintro e wg ⟨rfl, K9⟩; refine ⟨((((Kept.refl _).drewN _).trans K7).trans K8).trans K9, hK _ _ ?_⟩; clear hK Ko)
  refine Ord.done ?_
  go_wp2
  go_ret
  exact ⟨rfl, KK.out.trans (((((Kept.refl _).drewN _).trans K7).trans K8).trans K9)⟩
end Go.Proofs.Ytnjnmgpjohfjiac
