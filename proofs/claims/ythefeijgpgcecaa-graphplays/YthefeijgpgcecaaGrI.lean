/- Fork. -/
import Derived.Test.YthefeijgpgcecaaGrH
namespace Go.Proofs.Ythefeijgpgcecaa
open Go.RowKit

set_option maxRecDepth 100000 in
set_option maxHeartbeats 2000000 in
theorem fork_calls (w : World) (F : Nat → Prop) (p : Nat) (nodes : Int) (es : List Ed) (h : NetF w F p nodes es) (hn : es.length ≤ 4096) :
    Calls Try.prog 8 #[.pointer (some ⟨p, 0, none⟩)] w fun r w' => ∃ q, r = .returned (.pointer (some ⟨q, 0, none⟩)) ∧ NetAt w' w.heap.size q nodes es ∧ Kept w w' := by
  have g0 := h.c0
  obtain ⟨ao, cap, g1, O0, _, _⟩ := h.c1
  have HE := hid_of (ERow.of_owns O0)
  have hnil := owns_nil O0
  obtain ⟨n, hN⟩ : ∃ n, es.length = n := ⟨_, rfl⟩
  rw [hN] at g1 HE hnil hn
  have HN := hid_of hN
  have SC := hid_of (fun m => shapeOf_calls nodes ao n cap es (w.drewN m) (HE.out.kept ((Kept.refl _).drewN m)) (by omega) hnil)
  clear O0 h hN
  go_enter Try.func8, Try.ntmps8
  go_wp2_with fail
  refine Ord.region [(0, 0), (1, 0), (2, 0), (3, 0), (4, 1), (5, 0), (6, 0), (7, 0), (8, 0), (9, 1), (10, 0), (11, 2), (12, 0), (13, 2), (14, 0)] (fun w' => Kept w w') (by kernel_rfl) (by kernel_rfl) (by kernel_rfl) (by kernel_rfl) (fun _ _ d _ _ h => by cases d <;> exact h) ((Kept.refl w).drewN _) ?_
  repeat
    refine Ord.step rfl (fun Ko hK => ?_)
    simp only [Ord.body]
    go_simp
    first
      | (refine hK _ _ ?_; clear hK Ko)
      | (refine ⟨_, fun w' hS => (by have c0 := hS.cell g0; simp only [c0, Result.andThen]; rfl), hK _ _ ?_⟩; clear hK Ko)
      | (refine ⟨_, fun w' hS => (by have c0 := hS.cell g1; simp only [c0, Result.andThen]; rfl), hK _ _ ?_⟩; clear hK Ko)
      | (go_at_call 21; refine (SC.out _).mono ?_; rintro e wf ⟨ao', cap', rfl, O, K6⟩; have KN : Kept w wf := ((Kept.refl w).drewN _).trans K6; refine ⟨KN, hK _ _ ?_⟩; clear hK Ko)
      | (refine ⟨KN.alloc _, hK _ _ ?_⟩; clear hK Ko)
  refine Ord.done ?_
  have OO : wf.ownsRow w.heap.size 36 4 (.slice ao' n cap') n (evals es) := O.mono (by simp)
  have NN : NetAt (wf.alloc (Obj.cells #[.int .i64 nodes, .slice ao' n cap'] 46)) w.heap.size wf.heap.size nodes es := by
    refine ⟨by simp [go_sem], ⟨ao', cap', by rw [HN.out]; simp [go_sem], by rw [HN.out]; exact OO.alloc _, ?_⟩, by simp [go_sem], by simp [go_sem], KN.size, fun q => by simp [go_sem]⟩
    rw [HN.out]
    intro t
    have := (OO.lt _ t.symm).2
    omega
  have NNH := hid_of NN
  have KH := hid_of (KN.alloc (Obj.cells #[.int .i64 nodes, .slice ao' n cap'] 46))
  clear NN OO O K6
  go_wp2_with fail
  go_ret
  exact ⟨_, rfl, NNH.out, KH.out⟩
end Go.Proofs.Ythefeijgpgcecaa
