/- What a net is asked: Edge, Nodes, Edges; the law's awake. -/
import Derived.Test.YtjbodameaeaaeaaEdgeI
namespace Go.Proofs.Ytjbodameaeaaeaa
open Go.RowKit

theorem has_calls (w : World) (B p : Nat) (nodes : Int) (es : List Ed) (h : NetAt w B p nodes es) (i : Int) :
    Calls Try.prog 22 #[.pointer (some ⟨p, 0, none⟩), .int .i64 i] w fun v w' => v = .returned (.bool (decide (0 ≤ i) && decide (i < (es.length : Int)))) ∧ w = w' := by
  obtain ⟨ao, cap, c1, _, _⟩ := h.c1
  by_cases hi : 0 ≤ i
  · go_enter Try.func22, Try.ntmps22
    go_wp2
    go_ret
    exact ⟨by simp [hi], rfl⟩
  · go_enter Try.func22, Try.ntmps22
    go_wp2
    go_ret
    exact ⟨by simp; omega, rfl⟩

theorem nodes_calls (w : World) (B p : Nat) (nodes : Int) (es : List Ed) (h : NetAt w B p nodes es) :
    Calls Try.prog 17 #[.pointer (some ⟨p, 0, none⟩)] w fun v w' => v = .returned (.int .i64 nodes) ∧ w = w' := by
  have c0 := h.c0
  go_enter Try.func17, Try.ntmps17
  go_wp2
  go_ret
  exact ⟨rfl, rfl⟩

theorem edges_calls (w : World) (B p : Nat) (nodes : Int) (es : List Ed) (h : NetAt w B p nodes es) :
    Calls Try.prog 16 #[.pointer (some ⟨p, 0, none⟩)] w fun v w' => v = .returned (.int .i64 (es.length : Int)) ∧ w = w' := by
  obtain ⟨ao, cap, c1, _, _⟩ := h.c1
  go_enter Try.func16, Try.ntmps16
  go_wp2
  go_ret
  exact ⟨rfl, rfl⟩

set_option maxRecDepth 100000 in
set_option maxHeartbeats 1000000 in
theorem edge_calls (w : World) (B p : Nat) (nodes : Int) (es : List Ed) (h : NetAt w B p nodes es) (i : Nat) (hi : i < es.length) :
    Calls Try.prog 15 #[.pointer (some ⟨p, 0, none⟩), .int .i64 (i : Int)] w fun v w' => v = .returned (.tuple #[(edAt es i).val, .int .i64 0]) ∧ Kept w w' := by
  have H1 := h.alloc (Obj.cells #[.int .i64 0, .int .i64 0, .int .i64 0, .int .i64 0] 39)
  obtain ⟨ao, cap, c1, O, hp⟩ := H1.c1
  have KW : Kept w (w.alloc (Obj.cells #[.int .i64 0, .int .i64 0, .int .i64 0, .int .i64 0] 39)) := (Kept.refl w).alloc _
  obtain ⟨b, off, rfl, hc⟩ := (ERow.of_owns O).cell (by omega)
  obtain ⟨d1, d2, d3, d4⟩ := hc i hi
  clear hc
  have lp : p < w.heap.size := by obtain ⟨_, _, t, _⟩ := h.c1; exact lt_cell t
  have C := hid_of (has_calls _ B p nodes es H1 (i : Int))
  have hb : (decide (0 ≤ (i : Int)) && decide ((i : Int) < (es.length : Int))) = true := by simp; omega
  rw [hb] at C
  have hi' : (i : Int) < (es.length : Int) := by omega
  have room := (ERow.of_owns O).room
  have most := (ERow.of_owns O).most
  unfold maxLen at most
  generalize edAt es i = e at d1 d2 d3 d4 ⊢
  obtain ⟨ef, et, ec, ek⟩ := e
  simp only at d1 d2 d3 d4
  have lb : b < (w.alloc (Obj.cells #[.int .i64 0, .int .i64 0, .int .i64 0, .int .i64 0] 39)).heap.size := lt_cell d1
  go_enter Try.func15, Try.ntmps15
  go_wp2_with (go_at_call 22; refine C.out.mono ?_; rintro v w' ⟨rfl, rfl⟩)
  refine bodyPost_ret (v := .tuple #[.agg #[.int .i64 ef, .int .i64 et, .int .i64 ec, .int .i64 ek], .int .i64 0]) (by simp [results, Try.results15, go_sem]) rfl ⟨rfl, (Kept.refl w).alloc _⟩

theorem row_nilE (w : World) : ERow w none 0 0 [] := ⟨rfl, by omega, by unfold maxLen; omega, fun h => by omega⟩

set_option maxRecDepth 100000 in
set_option maxHeartbeats 2000000 in
theorem awake_calls (w : World) : Calls Try.prog 5 #[] w fun v w' => v = .returned (.bool true) ∧ Kept w w' := by
  have hf : Hid (faultOf 2 [] = (0, 0)) := by unfold faultOf; exact rfl
  have ha : Hid (addOf 2 [] ⟨0, 1, 3, 0⟩ = ([⟨0, 1, 3, 0⟩], 0, 0)) := by unfold addOf badOf; exact rfl
  have CF := hid_of (from_calls 2 none 0 0 [] w (row_nilE w) (by omega) (fun _ => ⟨rfl, rfl⟩) 0 0 hf)
  go_enter Try.func5, Try.ntmps5
  go_wp2_with fail
  refine CF.out.mono ?_
  rintro v wa ⟨ptr, rfl, K1, -, hp⟩
  obtain ⟨p, rfl, N1⟩ := hp (by simp)
  have N2 := N1.alloc (Obj.cells #[.int .i64 0, .int .i64 0] 28)
  have K2 := K1.alloc (Obj.cells #[.int .i64 0, .int .i64 0] 28)
  have CA := hid_of (add_calls _ _ _ _ _ ⟨0, 1, 3, 0⟩ N2 _ _ _ ha)
  clear CF hf ha
  go_wp2_with fail
  refine CA.out.mono ?_
  rintro v wb ⟨rfl, N3, KF⟩
  have K3 := KF w (Nat.le_refl _) K2
  have CE := hid_of (edge_calls _ _ _ _ _ N3 0 (by simp))
  clear CA KF
  go_wp2_with fail
  refine CE.out.mono ?_
  rintro v wc ⟨rfl, K4⟩
  have N4 := (N3.kept K4).alloc (Obj.cells #[.int .i64 0, .int .i64 1, .int .i64 3, .int .i64 0] 39)
  have C1 := hid_of (edges_calls _ _ _ _ _ N4)
  have C2 := hid_of (nodes_calls _ _ _ _ _ N4)
  clear CE
  go_wp2_with (first | (go_at_call 16; refine C1.out.mono ?_; rintro v w' ⟨rfl, rfl⟩) | (go_at_call 17; refine C2.out.mono ?_; rintro v w' ⟨rfl, rfl⟩))
  go_ret
  exact ⟨rfl, (K3.trans K4).alloc _⟩
end Go.Proofs.Ytjbodameaeaaeaa
