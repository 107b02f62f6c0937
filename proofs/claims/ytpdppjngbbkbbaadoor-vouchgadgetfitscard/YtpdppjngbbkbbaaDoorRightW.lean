/- What a graph without a fault is. -/
import Derived.Test.YtpdppjngbbkbbaaDoorEdgeB
namespace Go.Proofs.YtpdppjngbbkbbaaDoor
open Go.RowKit

theorem memW_edAt {es : List Ed} {e : Ed} (h : e ∈ es) : ∃ i, i < es.length ∧ edAt es i = e := by
  obtain ⟨i, hi, rfl⟩ := List.getElem_of_mem h
  exact ⟨i, hi, by simp [edAt, List.getD, hi]⟩

/-- A graph without a fault: its nodes, its edges. -/
theorem rightW_of {nodes : Int} {es : List Ed} {a : Int} (h : faultOf nodes es = (0, a)) : 0 ≤ nodes ∧ nodes ≤ 1024 ∧ es.length ≤ 4096 ∧ a = 0 ∧ ∀ e ∈ es, 0 ≤ e.f ∧ e.f < nodes ∧ 0 ≤ e.t ∧ e.t < nodes := by
  by_cases hs : nodes < 0 ∨ 1024 < nodes ∨ 4096 < es.length
  · unfold faultOf at h
    rw [if_pos hs] at h
    simp at h
  · have h' := h
    unfold faultOf at h'
    rw [if_neg hs] at h'
    have hc : faultTo nodes es es.length = (0, 0) := fault_clean nodes es _ (by rw [h'])
    have ha : a = 0 := by rw [hc] at h'; simpa using h'.symm
    refine ⟨by omega, by omega, by omega, ha, fun e he => ?_⟩
    obtain ⟨i, hi, rfl⟩ := memW_edAt he
    have hk : ∀ k, k ≤ es.length → faultTo nodes es k = (0, 0) := fun k hk => by
      by_cases h0 : (faultTo nodes es k).1 = 0
      · exact fault_clean nodes es k h0
      · have := fault_stop nodes es k h0 (es.length - k)
        rw [show k + (es.length - k) = es.length by omega, hc] at this
        exact this.symm
    have hb : badOf nodes (edAt es i) = 0 := by
      by_cases hb : badOf nodes (edAt es i) = 0
      · exact hb
      · have := fault_hit nodes es i (hk i (by omega)) hb hi
        rw [hc] at this
        simp only [Prod.mk.injEq] at this
        exact absurd this.1.symm hb
    unfold badOf at hb
    split at hb
    · omega
    · omega
end Go.Proofs.YtpdppjngbbkbbaaDoor
