/- A net made of a graph: shapeOf, From. -/
import Derived.Test.YtjbodameaeaaeaaEdgeD
import Derived.Deep.Onto
namespace Go.Proofs.Ytjbodameaeaaeaa
open Go.RowKit

set_option maxRecDepth 100000 in
set_option maxHeartbeats 1000000 in
theorem shapeOf_calls (nodes : Int) (ao : Option Addr) (n cap : Nat) (es : List Ed) (w : World) (h : ERow w ao n cap es) (hb : n * 32 ≤ 140737488355328) (hnil : ao = none → n = 0 ∧ cap = 0) :
    Calls Try.prog 20 #[.agg #[.int .i64 nodes, .slice ao n cap]] w fun v w' => ∃ ao' cap', v = .returned (.agg #[.int .i64 nodes, .slice ao' n cap']) ∧ w'.ownsRow (w.heap.size + 2) 39 4 (.slice ao' n cap') n (evals es) ∧ Kept w w' := by
  have KG : Kept w (w.alloc (Obj.cells #[.int .i64 nodes, .slice ao n cap] 24)) := (Kept.refl w).alloc _
  have g0 : (w.alloc (Obj.cells #[.int .i64 nodes, .slice ao n cap] 24)).cell? ⟨w.heap.size, 0, none⟩ = some (.int .i64 nodes) := by simp [go_sem]
  have g1 : (w.alloc (Obj.cells #[.int .i64 nodes, .slice ao n cap] 24)).cell? ⟨w.heap.size, 1, none⟩ = some (.slice ao n cap) := by simp [go_sem]
  have hz : (w.alloc (Obj.cells #[.int .i64 nodes, .slice ao n cap] 24)).heap.size = w.heap.size + 1 := by simp
  go_enter Try.func20, Try.ntmps20
  go_wp2_with fail
  generalize w.alloc (Obj.cells #[.int .i64 nodes, .slice ao n cap] 24) = W2 at KG g0 g1 hz ⊢
  have KS : Kept W2 (W2.alloc (Obj.cells #[.int .i64 0, .slice none 0 0] 42)) := (Kept.refl W2).alloc _
  have s0 : (W2.alloc (Obj.cells #[.int .i64 0, .slice none 0 0] 42)).cell? ⟨W2.heap.size, 0, none⟩ = some (.int .i64 0) := by simp [go_sem]
  have s1 : (W2.alloc (Obj.cells #[.int .i64 0, .slice none 0 0] 42)).cell? ⟨W2.heap.size, 1, none⟩ = some (.slice none 0 0) := by simp [go_sem]
  have s2 : (W2.alloc (Obj.cells #[.int .i64 0, .slice none 0 0] 42)).frozen? ⟨W2.heap.size, 0, none⟩ = false := by simp [go_sem]
  have s3 : (W2.alloc (Obj.cells #[.int .i64 0, .slice none 0 0] 42)).frozen? ⟨W2.heap.size, 1, none⟩ = false := by simp [go_sem]
  have hz2 : (W2.alloc (Obj.cells #[.int .i64 0, .slice none 0 0] 42)).heap.size = W2.heap.size + 1 := by simp
  generalize W2.alloc (Obj.cells #[.int .i64 0, .slice none 0 0] 42) = W1 at KS s0 s1 s2 s3 hz2 ⊢
  have CC := hid_of (fun m => clone_calls ao n cap es (W1.drewN m) (((h.kept KG).kept KS).kept ((Kept.refl _).drewN m)) hb hnil)
  refine Ord.region [(0, 0), (1, 1), (2, 0), (3, 1), (4, 2), (5, 0), (6, 2)] (fun w' => Kept W2 w') (by kernel_rfl) (by kernel_rfl) (by kernel_rfl) (by kernel_rfl) (fun _ _ d _ _ h => by cases d <;> exact h) (KS.drewN _) ?_
  repeat
    refine Ord.step rfl (fun Ko hK => ?_)
    simp only [Ord.body]
    go_simp
    first
      | (refine hK _ _ ?_; clear hK Ko)
      | (refine ⟨_, fun w' hS => (by have c0 := hS.cell g0; simp only [c0, Result.andThen]; rfl), hK _ _ ?_⟩; clear hK Ko)
      | (refine ⟨_, fun w' hS => (by have c0 := hS.cell g1; simp only [c0, Result.andThen]; rfl), hK _ _ ?_⟩; clear hK Ko)
      | (go_at_call 21; refine (CC.out _).mono ?_; rintro e wf ⟨ao', cap', rfl, O, K6⟩; refine ⟨(KS.drewN _).trans K6, hK _ _ ?_⟩; clear hK Ko; rw [hz] at s0 s1 s2 s3; have KN := ((Kept.refl W1).drewN _).trans K6; have t0 := KN.cell s0; have t1 := KN.cell s1; have t2 := (Below.frozen (p := ⟨w.heap.size + 1, 0, none⟩) KN (lt_cell s0)).trans s2; have t3 := (Below.frozen (p := ⟨w.heap.size + 1, 1, none⟩) KN (lt_cell s1)).trans s3; obtain ⟨u1, u2, u3, u4⟩ := box2w t0 t1 (.int .i64 nodes) (.slice ao' n cap'))
  refine Ord.step rfl (fun Ko hK => ?_)
  simp only [Ord.body]
  go_simp
  refine ⟨((KS.trans KN).setCell (by simp only; omega) _).setCell (by simp only; omega) _, hK _ _ (Ord.done ?_)⟩
  clear hK Ko
  have hB : (W1.drewN 0).heap.size = w.heap.size + 2 := by show W1.heap.size = _; omega
  have O1 : wf.ownsRow (w.heap.size + 2) 39 4 (.slice ao' n cap') n (evals es) := by
    have hb0 : W1.heap.size = w.heap.size + 2 := by omega
    rw [← hb0]; exact O
  have O2 := ownsRow_setCell_below (ownsRow_setCell_below O1 (a := ⟨w.heap.size + 1, 0, none⟩) (by simp only; omega) (.int .i64 nodes)) (a := ⟨w.heap.size + 1, 1, none⟩) (by simp only; omega) (.slice ao' n cap')
  have KK := ((KG.trans (KS.trans KN)).setCell (p := ⟨w.heap.size + 1, 0, none⟩) (by simp only; omega) (.int .i64 nodes)).setCell (p := ⟨w.heap.size + 1, 1, none⟩) (by simp only; omega) (.slice ao' n cap')
  go_wp2
  refine bodyPost_ret (v := .agg #[.int .i64 nodes, .slice ao' n cap']) (by simp [results, Try.results20, go_sem, u3, u4]) rfl ⟨ao', cap', rfl, O2, KK⟩

/-- A net: the number of its nodes, and a row of edges of its own, in blocks from B on. -/
structure NetAt (w : World) (B p : Nat) (nodes : Int) (es : List Ed) : Prop where
  c0 : w.cell? ⟨p, 0, none⟩ = some (.int .i64 nodes)
  c1 : ∃ ao cap, w.cell? ⟨p, 1, none⟩ = some (.slice ao es.length cap) ∧ w.ownsRow B 39 4 (.slice ao es.length cap) es.length (evals es) ∧ some p ≠ (Value.slice ao es.length cap).ownBlock
  z0 : w.frozen? ⟨p, 0, none⟩ = false
  z1 : w.frozen? ⟨p, 1, none⟩ = false
  ge : B ≤ p
  zz : ∀ o, w.frozen? ⟨p, o, none⟩ = false

theorem fault_zero {nodes : Int} {es : List Ed} {a : Int} (h : faultOf nodes es = (0, a)) : a = 0 := by
  unfold faultOf at h
  split at h
  · simp at h
  · have := fault_clean nodes es es.length (by rw [h])
    rw [this] at h
    simpa using h.symm

set_option maxRecDepth 100000 in
set_option maxHeartbeats 2000000 in
theorem from_calls (nodes : Int) (ao : Option Addr) (n cap : Nat) (es : List Ed) (w : World) (h : ERow w ao n cap es) (hb : n * 32 ≤ 140737488355328) (hnil : ao = none → n = 0 ∧ cap = 0) (c a : Int) (hf : Hid (faultOf nodes es = (c, a))) :
    Calls Try.prog 8 #[.agg #[.int .i64 nodes, .slice ao n cap]] w fun v w' => ∃ ptr, v = .returned (.tuple #[.pointer ptr, .agg #[.int .i64 c, .int .i64 a]]) ∧ Kept w w' ∧ (c ≠ 0 → ptr = none) ∧ (c = 0 → ∃ p, ptr = some ⟨p, 0, none⟩ ∧ NetAt w' w.heap.size p nodes es) := by
  have KG : Kept w ((w.alloc (Obj.cells #[.int .i64 nodes, .slice ao n cap] 24)).alloc (Obj.cells #[.int .i64 0, .int .i64 0] 28)) := ((Kept.refl w).alloc _).alloc _
  have g0 : ((w.alloc (Obj.cells #[.int .i64 nodes, .slice ao n cap] 24)).alloc (Obj.cells #[.int .i64 0, .int .i64 0] 28)).cell? ⟨w.heap.size, 0, none⟩ = some (.int .i64 nodes) := by simp [go_sem]
  have g1 : ((w.alloc (Obj.cells #[.int .i64 nodes, .slice ao n cap] 24)).alloc (Obj.cells #[.int .i64 0, .int .i64 0] 28)).cell? ⟨w.heap.size, 1, none⟩ = some (.slice ao n cap) := by simp [go_sem]
  have f0 : ((w.alloc (Obj.cells #[.int .i64 nodes, .slice ao n cap] 24)).alloc (Obj.cells #[.int .i64 0, .int .i64 0] 28)).cell? ⟨w.heap.size + 1, 0, none⟩ = some (.int .i64 0) := by simp [go_sem]
  have f1 : ((w.alloc (Obj.cells #[.int .i64 nodes, .slice ao n cap] 24)).alloc (Obj.cells #[.int .i64 0, .int .i64 0] 28)).cell? ⟨w.heap.size + 1, 1, none⟩ = some (.int .i64 0) := by simp [go_sem]
  have f2 : ((w.alloc (Obj.cells #[.int .i64 nodes, .slice ao n cap] 24)).alloc (Obj.cells #[.int .i64 0, .int .i64 0] 28)).frozen? ⟨w.heap.size + 1, 0, none⟩ = false := by simp [go_sem]
  have f3 : ((w.alloc (Obj.cells #[.int .i64 nodes, .slice ao n cap] 24)).alloc (Obj.cells #[.int .i64 0, .int .i64 0] 28)).frozen? ⟨w.heap.size + 1, 1, none⟩ = false := by simp [go_sem]
  by_cases hc : c = 0
  · subst hc
    go_enter Try.func8, Try.ntmps8
    go_wp2_with fail
    generalize (w.alloc (Obj.cells #[.int .i64 nodes, .slice ao n cap] 24)).alloc (Obj.cells #[.int .i64 0, .int .i64 0] 28) = W1 at KG g0 g1 f0 f1 f2 f3 ⊢
    refine (check_calls nodes ao n cap es W1 (h.kept KG) 0 a hf).mono ?_
    rintro v wb ⟨rfl, K1⟩
    have K2 := K1.alloc (Obj.cells #[.int .i64 0, .int .i64 a] 28)
    have p0 := K1.cell g0
    have p1 := K1.cell g1
    have l1 := lt_cell p0
    simp only at l1
    have e0 := K2.cell g0
    have e1 := K2.cell g1
    have SC := hid_of (shapeOf_calls nodes ao n cap es _ ((h.kept KG).kept K2) hb hnil)
    go_wp2_with fail
    refine SC.out.mono ?_
    rintro v wc ⟨ao', cap', rfl, O, K3⟩
    have K4 := K2.trans K3
    have KW := KG.trans K4
    have r0 := K4.cell f0
    have r1 := K4.cell f1
    have r2 := (Below.frozen (p := ⟨w.heap.size + 1, 0, none⟩) K4 (lt_cell f0)).trans f2
    have r3 := (Below.frozen (p := ⟨w.heap.size + 1, 1, none⟩) K4 (lt_cell f1)).trans f3
    have l2 := lt_cell r0
    simp only at l2
    have K5 := K4.alloc (Obj.cells #[.int .i64 nodes, .slice ao' n cap'] 44)
    have z0 := K5.cell f0
    have z1 := K5.cell f1
    have z2 := (Below.frozen (p := ⟨w.heap.size + 1, 0, none⟩) K5 (lt_cell f0)).trans f2
    have z3 := (Below.frozen (p := ⟨w.heap.size + 1, 1, none⟩) K5 (lt_cell f1)).trans f3
    obtain ⟨u1, u2, u3, u4⟩ := box2w z0 z1 (.int .i64 0) (.int .i64 0)
    clear SC p0 p1 e0 e1
    obtain rfl : a = 0 := fault_zero hf.out
    obtain ⟨x1, x2, x3, x4⟩ := box2w r0 r1 (.int .i64 0) (.int .i64 0)
    go_wp2_with fail
    have O1 := ownsRow_setCell_below (ownsRow_setCell_below O (a := ⟨w.heap.size + 1, 0, none⟩) (by simp; omega) (.int .i64 0)) (a := ⟨w.heap.size + 1, 1, none⟩) (by simp; omega) (.int .i64 0)
    have KZ := (KW.setCell (p := ⟨w.heap.size + 1, 0, none⟩) (by simp) (.int .i64 0)).setCell (p := ⟨w.heap.size + 1, 1, none⟩) (by simp) (.int .i64 0)
    have hsz : ((wc.setCell ⟨w.heap.size + 1, 0, none⟩ (.int .i64 0)).setCell ⟨w.heap.size + 1, 1, none⟩ (.int .i64 0)).heap.size = wc.heap.size := by simp
    have hlen : n = es.length := h.len
    generalize (wc.setCell ⟨w.heap.size + 1, 0, none⟩ (.int .i64 0)).setCell ⟨w.heap.size + 1, 1, none⟩ (.int .i64 0) = Wz at x3 x4 O1 KZ hsz ⊢
    have KZ1 : Kept Wz (Wz.alloc (Obj.cells #[.int .i64 nodes, .slice ao' n cap'] 44)) := (Kept.refl _).alloc _
    have y3 := KZ1.cell x3
    have y4 := KZ1.cell x4
    refine bodyPost_ret (v := .tuple #[.pointer (some ⟨wc.heap.size, 0, none⟩), .agg #[.int .i64 0, .int .i64 0]]) (by simp [results, Try.results8, go_sem, y3, y4]) rfl ⟨_, rfl, KZ.alloc _, fun t => absurd rfl t, fun _ => ⟨wc.heap.size, rfl, ?_⟩⟩
    subst hlen
    refine ⟨by rw [← hsz]; simp [go_sem], ⟨ao', cap', by rw [← hsz]; simp [go_sem], (O1.alloc _).mono (by have := KG.size; have := K2.size; omega), ?_⟩, by rw [← hsz]; simp [go_sem], by rw [← hsz]; simp [go_sem], by have := KW.size; omega, fun o => by rw [← hsz]; simp [go_sem]⟩
    intro t
    have := (O.lt _ t.symm).2
    omega
  · have q : (c != 0) = true := by simpa using hc
    go_enter Try.func8, Try.ntmps8
    go_wp2_with fail
    generalize (w.alloc (Obj.cells #[.int .i64 nodes, .slice ao n cap] 24)).alloc (Obj.cells #[.int .i64 0, .int .i64 0] 28) = W1 at KG g0 g1 f0 f1 f2 f3 ⊢
    refine (check_calls nodes ao n cap es W1 (h.kept KG) c a hf).mono ?_
    rintro v wb ⟨rfl, K1⟩
    have K2 := K1.alloc (Obj.cells #[.int .i64 c, .int .i64 a] 28)
    have e0 := K2.cell f0
    have e1 := K2.cell f1
    have e2 := (Below.frozen (p := ⟨w.heap.size + 1, 0, none⟩) K2 (lt_cell f0)).trans f2
    have e3 := (Below.frozen (p := ⟨w.heap.size + 1, 1, none⟩) K2 (lt_cell f1)).trans f3
    have l1 := lt_cell (K1.cell f0)
    simp only at l1
    obtain ⟨u1, u2, u3, u4⟩ := box2w e0 e1 (.int .i64 c) (.int .i64 a)
    have y0 : (wb.alloc (Obj.cells #[.int .i64 c, .int .i64 a] 28)).cell? ⟨wb.heap.size, 0, none⟩ = some (.int .i64 c) := by simp [go_sem]
    have y1 : (wb.alloc (Obj.cells #[.int .i64 c, .int .i64 a] 28)).cell? ⟨wb.heap.size, 1, none⟩ = some (.int .i64 a) := by simp [go_sem]
    have x0 := y0
    have x1 := y1
    go_wp2_with fail
    clear x0 x1
    generalize wb.alloc (Obj.cells #[.int .i64 c, .int .i64 a] 28) = W3 at K2 e0 e1 e2 e3 u1 u2 u3 u4 y0 y1 ⊢
    refine Ord.region [(0, 1), (1, 0), (2, 2)] (fun w' => w'.cell? ⟨wb.heap.size, 0, none⟩ = some (.int .i64 c) ∧ w'.cell? ⟨wb.heap.size, 1, none⟩ = some (.int .i64 a)) (by kernel_rfl) (by kernel_rfl) (by kernel_rfl) (by kernel_rfl) (fun _ _ d _ _ h => by cases d <;> exact h) ⟨y0, y1⟩ ?_
    repeat
      refine Ord.step rfl (fun Ko hK => ?_)
      simp only [Ord.body]
      go_simp
      first
        | (refine hK _ _ ?_; clear hK Ko)
        | (refine ⟨_, fun w' c0 c1 => (by simp only [c0, c1, Result.andThen]; rfl), hK _ _ ?_⟩; clear hK Ko)
        | (refine ⟨⟨by rw [World.cell?_setCell_other _ _ _ _ (by simp; omega), World.cell?_setCell_other _ _ _ _ (by simp; omega)]; exact y0, by rw [World.cell?_setCell_other _ _ _ _ (by simp; omega), World.cell?_setCell_other _ _ _ _ (by simp; omega)]; exact y1⟩, hK _ _ ?_⟩; clear hK Ko)
        | (refine ⟨?_, hK _ _ ?_⟩; clear hK Ko)
    refine Ord.done ?_
    obtain ⟨x1, x2, x3, x4⟩ := box2w (w := W3.drewN 1) e0 e1 (.int .i64 c) (.int .i64 a)
    have KZ := (((KG.trans K2).drewN 1).setCell (p := ⟨w.heap.size + 1, 0, none⟩) (by simp) (.int .i64 c)).setCell (p := ⟨w.heap.size + 1, 1, none⟩) (by simp) (.int .i64 a)
    go_wp2
    refine bodyPost_ret (v := .tuple #[.pointer none, .agg #[.int .i64 c, .int .i64 a]]) (by simp [results, Try.results8, go_sem, x3, x4]) rfl ⟨none, rfl, KZ, fun _ => rfl, fun t => absurd t hc⟩
end Go.Proofs.Ytjbodameaeaaeaa
