/- Same, at graphs with the same nodes and edges. -/
import Derived.Test.YtjbodameaeaaeaaEdgeG
import Derived.Laws.StructEq
namespace Go.Proofs.Ytjbodameaeaaeaa
open Go.RowKit

theorem edge_neq (f t c k : Int) (w : World) : (binOp .neq 39 (.agg #[.int .i64 f, .int .i64 t, .int .i64 c, .int .i64 k]) (.agg #[.int .i64 f, .int .i64 t, .int .i64 c, .int .i64 k])).run Try.prog w = .ok (.bool false) w := by
  have hp : Try.prog.stoodInHeld 39 = false := by kernel_rfl
  have hu : Try.prog.underlying 39 = some (.struct (Try.prog.fieldsOf 39)) := by simp [Program.fieldsOf, Try.underlying39]
  rw [run_neq_struct, run_equalIn_agg w 9999 39 _ _ hu hp]
  simp [Program.fieldsOf, Try.underlying39, Op.eqFields, go_sem, Try.underlying3, Try.underlying2]

set_option maxRecDepth 100000 in
set_option maxHeartbeats 2000000 in
theorem same_calls (nodes : Int) (ao bo : Option Addr) (n cap cbp : Nat) (es : List Ed) (w : World) (h : ERow w ao n cap es) (h2 : ERow w bo n cbp es) :
    Calls Try.prog 9 #[.agg #[.int .i64 nodes, .slice ao n cap], .agg #[.int .i64 nodes, .slice bo n cbp]] w fun v w' => v = .returned (.bool true) ∧ Kept w w' := by
  have hl1 : n ≤ es.length := Nat.le_of_eq h.len
  have hl2 : es.length ≤ n := Nat.le_of_eq h.len.symm
  have hr := h.room
  have hm := h.most
  have hr2 := h2.room
  have hm2 := h2.most
  unfold maxLen at hm hm2
  have q1 : (nodes != nodes) = false := by simp
  have q2 : ((n : Int) != (n : Int)) = false := by simp
  have KG : Kept w ((w.alloc (Obj.cells #[.int .i64 nodes, .slice ao n cap] 24)).alloc (Obj.cells #[.int .i64 nodes, .slice bo n cbp] 24)) := ((Kept.refl w).alloc _).alloc _
  have g1 : ((w.alloc (Obj.cells #[.int .i64 nodes, .slice ao n cap] 24)).alloc (Obj.cells #[.int .i64 nodes, .slice bo n cbp] 24)).cell? ⟨w.heap.size, 1, none⟩ = some (.slice ao n cap) := by simp [go_sem]
  have g2 : ((w.alloc (Obj.cells #[.int .i64 nodes, .slice ao n cap] 24)).alloc (Obj.cells #[.int .i64 nodes, .slice bo n cbp] 24)).cell? ⟨w.heap.size + 1, 1, none⟩ = some (.slice bo n cbp) := by simp [go_sem]
  go_enter Try.func9, Try.ntmps9
  go_wp2_with fail
  generalize (w.alloc (Obj.cells #[.int .i64 nodes, .slice ao n cap] 24)).alloc (Obj.cells #[.int .i64 nodes, .slice bo n cbp] 24) = W1 at KG g1 g2 ⊢
  have HA := hid_of (h.kept KG)
  have HB := hid_of (h2.kept KG)
  clear h h2
  go_loopw [5] (fun i wr => ∃ (k m : Nat), k ≤ n ∧ i = .int .i64 k ∧ wr = W1.drewN m) (fun i _ => n - (intOf i).toNat)
  case atStart => exact ⟨0, 0, by omega, rfl, rfl⟩
  case round =>
    obtain ⟨k, m, hk, rfl, rfl⟩ := hrel
    by_cases hgo : (k : Int) < (n : Int)
    · obtain ⟨b, off, rfl, hc⟩ := HA.out.cell (by omega)
      obtain ⟨b2, off2, rfl, hc2⟩ := HB.out.cell (by omega)
      obtain ⟨c1, c2, c3, c4⟩ := hc k (by omega)
      obtain ⟨d1, d2, d3, d4⟩ := hc2 k (by omega)
      clear hc hc2 HA HB
      generalize edAt es k = ed at c1 c2 c3 c4 d1 d2 d3 d4
      obtain ⟨ef, et, ec, ek⟩ := ed
      simp only at c1 c2 c3 c4 d1 d2 d3 d4
      have NE := edge_neq ef et ec ek
      go_wp2_with fail
      go_quiet (fail)

      go_wp2
      go_roundw
      case rel => exact ⟨k + 1, _, by omega, by go_num, (by first | rfl | exact World.drewN_drewN ..)⟩
      case measure => simp [intOf]; omega
    · obtain rfl : k = n := by omega
      go_wp2
      go_ret
      exact ⟨rfl, KG.drewN _⟩
end Go.Proofs.Ytjbodameaeaaeaa
