/- The document's AddNode. -/
import Derived.Test.YthefeijgpgcecaaGrI
namespace Go.Proofs.Ythefeijgpgcecaa
open Go.RowKit

/-- A row is the one that came in, or new. -/
def Fresh (B : Nat) (ao : Option Addr) (n : Nat) (ao' : Option Addr) (n' : Nat) : Prop := ao' = ao ∧ n' = n ∨ ∀ a, ao' = some a → B ≤ a.block

theorem fresh_of_owns {w : World} {base e B n n0 cap : Nat} {ao ao' : Option Addr} {xs : List Value} (h : w.ownsRow base e 4 (.slice ao' n cap) n xs) (hB : B ≤ base) : Fresh B ao n0 ao' n := by
  refine .inr fun a ha => ?_
  subst ha
  rcases h.2 with ⟨h1, _⟩ | ⟨g, cap', cur, h1, _⟩
  · simp at h1
  · simp only [Value.slice.injEq, Option.some.injEq] at h1
    obtain ⟨rfl, -, -⟩ := h1
    exact Nat.le_trans hB (h.lt g rfl).1

set_option maxRecDepth 100000 in
set_option maxHeartbeats 2000000 in
theorem addNodeR_calls (nodes : Int) (ao : Option Addr) (n cap : Nat) (es : List Ed) (w : World) (h : ERow w ao n cap es) (h0 : 0 ≤ nodes) (h1 : nodes ≤ 1024) (hb : n ≤ 4096) (hnil : ao = none → n = 0 ∧ cap = 0) (nodes' x c : Int) (hs : Hid (addNodeOf nodes = (nodes', x, c))) :
    Calls Try.prog 23 #[.agg #[.int .i64 nodes, .slice ao n cap]] w fun r w' => ∃ ao' cap', r = .returned (.tuple #[.agg #[.int .i64 nodes', .slice ao' n cap'], .int .i64 x, .int .i64 c]) ∧ ERow w' ao' n cap' es ∧ (ao' = none → n = 0 ∧ cap' = 0) ∧ Fresh w.heap.size ao n ao' n ∧ Kept w w' := by
  have KG : Kept w ((w.alloc (Obj.cells #[.int .i64 nodes, .slice ao n cap] 24)).alloc (Obj.cells #[.int .i64 0, .slice none 0 0] 24)) := ((Kept.refl w).alloc _).alloc _
  have g0 : ((w.alloc (Obj.cells #[.int .i64 nodes, .slice ao n cap] 24)).alloc (Obj.cells #[.int .i64 0, .slice none 0 0] 24)).cell? ⟨w.heap.size, 0, none⟩ = some (.int .i64 nodes) := by simp [go_sem]
  have g1 : ((w.alloc (Obj.cells #[.int .i64 nodes, .slice ao n cap] 24)).alloc (Obj.cells #[.int .i64 0, .slice none 0 0] 24)).cell? ⟨w.heap.size, 1, none⟩ = some (.slice ao n cap) := by simp [go_sem]
  have f0 : ((w.alloc (Obj.cells #[.int .i64 nodes, .slice ao n cap] 24)).alloc (Obj.cells #[.int .i64 0, .slice none 0 0] 24)).cell? ⟨w.heap.size + 1, 0, none⟩ = some (.int .i64 0) := by simp [go_sem]
  have f1 : ((w.alloc (Obj.cells #[.int .i64 nodes, .slice ao n cap] 24)).alloc (Obj.cells #[.int .i64 0, .slice none 0 0] 24)).cell? ⟨w.heap.size + 1, 1, none⟩ = some (.slice none 0 0) := by simp [go_sem]
  have f2 : ((w.alloc (Obj.cells #[.int .i64 nodes, .slice ao n cap] 24)).alloc (Obj.cells #[.int .i64 0, .slice none 0 0] 24)).frozen? ⟨w.heap.size + 1, 0, none⟩ = false := by simp [go_sem]
  have f3 : ((w.alloc (Obj.cells #[.int .i64 nodes, .slice ao n cap] 24)).alloc (Obj.cells #[.int .i64 0, .slice none 0 0] 24)).frozen? ⟨w.heap.size + 1, 1, none⟩ = false := by simp [go_sem]
  have HE := hid_of (h.kept KG)
  have hss := hs.out
  unfold addNodeOf at hss
  have HB := hid_of h
  clear h
  by_cases hc : (1024 : Int) ≤ nodes
  · rw [if_pos hc] at hss
    simp only [Prod.mk.injEq] at hss
    obtain ⟨rfl, rfl, rfl⟩ := hss
    clear hs
    go_enter Try.func23, Try.ntmps23
    go_wp2_with fail
    have KZ : Kept w ((w.alloc (Obj.cells #[.int .i64 nodes, .slice ao n cap] 24)).alloc (Obj.cells #[.int .i64 nodes, .slice ao n cap] 24)) := ((Kept.refl w).alloc _).alloc _
    exact bodyPost_ret (v := .tuple #[.agg #[.int .i64 nodes, .slice ao n cap], .int .i64 0, .int .i64 3]) (by simp [results, Try.results23, go_sem]) rfl ⟨ao, cap, rfl, HB.out.kept KZ, hnil, .inl ⟨rfl, rfl⟩, KZ⟩
  · rw [if_neg hc] at hss
    simp only [Prod.mk.injEq] at hss
    obtain ⟨rfl, rfl, rfl⟩ := hss
    clear hs
    go_enter Try.func23, Try.ntmps23
    go_wp2_with fail
    generalize (w.alloc (Obj.cells #[.int .i64 nodes, .slice ao n cap] 24)).alloc (Obj.cells #[.int .i64 0, .slice none 0 0] 24) = W1 at KG g0 g1 f0 f1 f2 f3 HE ⊢
    refine (copyR_calls nodes ao n cap es W1 HE.out (by omega)).mono ?_
    rintro v wf ⟨ao', cap', rfl, O, K6⟩
    have p0 := K6.cell g0
    have q0 := K6.cell f0
    have q1 := K6.cell f1
    have q2 := (Below.frozen (p := ⟨w.heap.size + 1, 0, none⟩) K6 (lt_cell f0)).trans f2
    have q3 := (Below.frozen (p := ⟨w.heap.size + 1, 1, none⟩) K6 (lt_cell f1)).trans f3
    have lw : w.heap.size + 1 < W1.heap.size := lt_cell f0
    have OH := hid_of O
    have KH := hid_of (KG.trans K6)
    clear HE HB KG g0 g1 f0 f1 f2 f3 O K6
    go_wp2_with fail
    have K7 : Kept wf (wf.alloc (Obj.cells #[.int .i64 (nodes + 1), .slice ao' n cap'] 24)) := (Kept.refl wf).alloc _
    have e0 : (wf.alloc (Obj.cells #[.int .i64 (nodes + 1), .slice ao' n cap'] 24)).cell? ⟨wf.heap.size, 0, none⟩ = some (.int .i64 (nodes + 1)) := by simp [go_sem]
    have e1 : (wf.alloc (Obj.cells #[.int .i64 (nodes + 1), .slice ao' n cap'] 24)).cell? ⟨wf.heap.size, 1, none⟩ = some (.slice ao' n cap') := by simp [go_sem]
    have lq : w.heap.size + 1 < wf.heap.size := lt_cell q0
    have ne : ¬ wf.heap.size = w.heap.size + 1 := by omega
    have nw : ¬ w.heap.size = w.heap.size + 1 := by omega
    have p1 := K7.cell p0
    have t0 := K7.cell q0
    have t1 := K7.cell q1
    have t2 := (Below.frozen (p := ⟨w.heap.size + 1, 0, none⟩) K7 (lt_cell q0)).trans q2
    have t3 := (Below.frozen (p := ⟨w.heap.size + 1, 1, none⟩) K7 (lt_cell q1)).trans q3
    have O7 := hid_of (ownsK OH.out K7)
    have KW := hid_of (KH.out.trans K7)
    generalize wf.alloc (Obj.cells #[.int .i64 (nodes + 1), .slice ao' n cap'] 24) = W5 at K7 e0 e1 p1 t0 t1 t2 t3 O7 KW ⊢
    clear p0 q0 q1 q2 q3 OH KH K7
    refine Ord.region [(0, 1), (1, 0), (2, 1), (3, 2), (4, 0), (5, 0)] (fun w' => Ch (fun x => x = w.heap.size + 1) W5 w') (by kernel_rfl) (by kernel_rfl) (by kernel_rfl) (by kernel_rfl) (fun _ _ d _ _ h => by cases d <;> exact h) ((Ch.refl _ W5).drewN _) ?_
    repeat
      refine Ord.step rfl (fun Ko hK => ?_)
      simp only [Ord.body]
      go_simp
      first
        | (refine hK _ _ ?_; clear hK Ko)
        | (refine ⟨_, fun w' hS => (by have c0 := hS.cell p1 nw; simp only [c0, Result.andThen]; rfl), hK _ _ ?_⟩; clear hK Ko)
        | (refine ⟨_, fun w' hS => (by have c0 := hS.cell e0 ne; have c1 := hS.cell e1 ne; simp only [c0, c1, Result.andThen]; rfl), hK _ _ ?_⟩; clear hK Ko)
        | (refine ⟨(((Ch.refl (fun x => x = w.heap.size + 1) W5).drewN _).setCell (F := fun x => x = w.heap.size + 1) (p := ⟨w.heap.size + 1, 0, none⟩) rfl _).setCell (F := fun x => x = w.heap.size + 1) (p := ⟨w.heap.size + 1, 1, none⟩) rfl _, hK _ _ ?_⟩; clear hK Ko)
    refine Ord.done ?_
    obtain ⟨u1, u2, u3, u4⟩ := box2w (w := W5.drewN 1) t0 t1 (.int .i64 (nodes + 1)) (.slice ao' n cap')
    have O8 := ownsRow_setCell_below (ownsRow_setCell_below (ownsK O7.out ((Kept.refl W5).drewN 1)) (a := ⟨w.heap.size + 1, 0, none⟩) (by simp only; omega) (.int .i64 (nodes + 1))) (a := ⟨w.heap.size + 1, 1, none⟩) (by simp only; omega) (.slice ao' n cap')
    have KZ := ((KW.out.drewN 1).setCell (p := ⟨w.heap.size + 1, 0, none⟩) (by simp) (.int .i64 (nodes + 1))).setCell (p := ⟨w.heap.size + 1, 1, none⟩) (by simp) (.slice ao' n cap')
    have E8 := hid_of (ERow.of_owns O8)
    have N8 := hid_of (owns_nil O8)
    have lKW := KW.out.size
    have FR8 : Fresh w.heap.size ao n ao' n := fresh_of_owns O8 (by omega)
    clear O8
    go_wp2
    exact bodyPost_ret (v := .tuple #[.agg #[.int .i64 (nodes + 1), .slice ao' n cap'], .int .i64 nodes, .int .i64 0]) (by simp [results, Try.results23, go_sem, u3, u4]) rfl ⟨ao', cap', rfl, E8.out, N8.out, FR8, KZ⟩
end Go.Proofs.Ythefeijgpgcecaa
