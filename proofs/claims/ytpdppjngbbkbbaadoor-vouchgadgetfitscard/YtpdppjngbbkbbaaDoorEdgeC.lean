/- The document's Check. -/
import Derived.Test.YtpdppjngbbkbbaaDoorEdgeB
import Derived.Test.YtpdppjngbbkbbaaDoorOrd
namespace Go.Proofs.YtpdppjngbbkbbaaDoor
open Go.RowKit

set_option maxRecDepth 100000 in
set_option maxHeartbeats 2000000 in
theorem checkR_calls (nodes : Int) (ao : Option Addr) (n cap : Nat) (es : List Ed) (w : World) (h : ERow w ao n cap es) (c a : Int) (hf : Hid (faultOf nodes es = (c, a))) :
    Calls Tryd.prog 41 #[.agg #[.int .i64 nodes, .slice ao n cap]] w fun v w' => v = .returned (.tuple #[.int .i64 c, .int .i64 a]) ∧ Kept w w' := by
  have hl1 : n ≤ es.length := Nat.le_of_eq h.len
  have hl2 : es.length ≤ n := Nat.le_of_eq h.len.symm
  have hr := h.room
  have hm := h.most
  unfold maxLen at hm
  have KW : Kept w (w.alloc (Obj.cells #[.int .i64 nodes, .slice ao n cap] 24)) := (Kept.refl w).alloc _
  by_cases hs : nodes < 0 ∨ 1024 < nodes ∨ 4096 < es.length
  · obtain ⟨rfl, rfl⟩ : c = 3 ∧ a = 0 := by
      have := hf.out
      unfold faultOf at this
      rw [if_pos hs] at this
      simp only [Prod.mk.injEq] at this
      exact ⟨this.1.symm, this.2.symm⟩
    have hsz : (4096 : Int) < (n : Int) ∨ nodes < 0 ∨ 1024 < nodes := by omega
    clear hf hs
    go_enter Tryd.func41, Tryd.ntmps41
    go_wp2_with fail
    all_goals go_ret2
    all_goals exact ⟨rfl, KW⟩
  · have hs1 : ¬ nodes < 0 := by omega
    have hs2 : ¬ 1024 < nodes := by omega
    have hs3 : ¬ (4096 : Int) < (n : Int) := by omega
    have HF : Hid (faultTo nodes es es.length = (c, a)) := by
      have := hf.out
      unfold faultOf at this
      rw [if_neg hs] at this
      exact this
    have HR := hid_of h
    clear hf hs h
    have w0 : (w.alloc (Obj.cells #[.int .i64 nodes, .slice ao n cap] 24)).cell? ⟨w.heap.size, 0, none⟩ = some (.int .i64 nodes) := by simp [go_sem]
    have w1 : (w.alloc (Obj.cells #[.int .i64 nodes, .slice ao n cap] 24)).cell? ⟨w.heap.size, 1, none⟩ = some (.slice ao n cap) := by simp [go_sem]
    go_enter Tryd.func41, Tryd.ntmps41
    go_wp2_with fail
    generalize w.alloc (Obj.cells #[.int .i64 nodes, .slice ao n cap] 24) = W1 at KW w0 w1 ⊢
    have HR1 := hid_of (HR.out.kept KW)
    clear HR
    go_loopw [4] (fun i wr => ∃ (k : Nat), k ≤ n ∧ i = .int .i64 k ∧ Kept W1 wr ∧ faultTo nodes es k = (0, 0)) (fun i _ => n - (intOf i).toNat)
    case atStart => exact ⟨0, by omega, rfl, Kept.refl _, rfl⟩
    case round =>
      obtain ⟨k, hk, rfl, K, hno⟩ := hrel
      have HNO := hid_of hno
      clear hno
      have r1 := K.cell w1
      by_cases hgo : (k : Int) < (n : Int)
      · obtain ⟨b, off, rfl, hc⟩ := HR1.out.cell (by omega)
        obtain ⟨d1, d2, d3, d4⟩ := hc k (by omega)
        clear hc
        have C := hid_of (fun w => bad_calls nodes (edAt es k) w)
        have HIT : Hid (badOf nodes (edAt es k) ≠ 0 → (c, a) = (badOf nodes (edAt es k), (k : Int))) := fun hb => by rw [← HF.out]; exact fault_hit nodes es k HNO.out hb (by omega)
        have PASS : Hid (badOf nodes (edAt es k) = 0 → faultTo nodes es (k + 1) = (0, 0)) := fun hb => fault_pass nodes es k HNO.out hb
        generalize edAt es k = e at d1 d2 d3 d4 C HIT PASS
        obtain ⟨ef, et, ec, ek⟩ := e
        generalize badOf nodes ⟨ef, et, ec, ek⟩ = bd at C HIT PASS
        clear HR1
        simp only at d1 d2 d3 d4
        go_wp2_with fail
        refine Ord.region [(0, 0), (1, 1), (2, 0), (3, 1), (4, 0), (5, 0), (6, 1), (7, 2), (8, 0)] (fun w' => Kept W1 w') (by kernel_rfl) (by kernel_rfl) (by kernel_rfl) (by kernel_rfl) (fun _ _ d _ _ h => by cases d <;> exact h) (K.drewN _) ?_
        repeat
          refine Ord.step rfl (fun Ko hK => ?_)
          simp only [Ord.body]
          go_simp
          first
            | (refine hK _ _ ?_; clear hK Ko)
            | (refine ⟨_, fun w' hS => (by have c0 := hS.cell w0; simp only [c0, Result.andThen]; rfl), hK _ _ ?_⟩; clear hK Ko)
            | (refine ⟨_, fun w' hS => (by have c0 := hS.cell w1; simp only [c0, Result.andThen]; rfl), hK _ _ ?_⟩; clear hK Ko)
            | (refine ⟨_, fun w' hS => (by have c0 := hS.cell d1; have c1 := hS.cell d2; have c2 := hS.cell d3; have c3 := hS.cell d4; simp only [c0, c1, c2, c3, Result.andThen]; rfl), hK _ _ ?_⟩; clear hK Ko)
            | (go_at_call 90; refine (C.out _).mono ?_; rintro e wf ⟨rfl, K6⟩; refine ⟨(K.drewN _).trans K6, hK _ _ ?_⟩; clear hK Ko)
        refine Ord.done ?_
        have KN := (K.drewN _).trans K6
        clear K6
        by_cases hb : bd = 0
        · have P := hid_of (PASS.out hb)
          have q : (bd != 0) = false := by simp [hb]
          clear HIT PASS hb d1 d2 d3 d4
          go_wp2_with fail
          go_roundw
          case rel => exact ⟨k + 1, by omega, by go_num, KN, P.out⟩
          case measure => simp [intOf]; omega
        · have q : (bd != 0) = true := by simp [hb]
          obtain ⟨rfl, rfl⟩ : c = bd ∧ a = (k : Int) := by simpa using HIT.out hb
          clear HIT PASS hb d1 d2 d3 d4
          go_wp2_with fail
          go_ret2
          exact ⟨rfl, KW.trans KN⟩
      · obtain rfl : k = n := by omega
        obtain ⟨rfl, rfl⟩ : c = 0 ∧ a = 0 := by
          have h1 := HF.out
          rw [show es.length = k by omega, HNO.out] at h1
          simpa using h1.symm
        clear HF HNO HR1
        go_wp2
        go_ret2
        exact ⟨rfl, KW.trans K⟩
end Go.Proofs.YtpdppjngbbkbbaaDoor
