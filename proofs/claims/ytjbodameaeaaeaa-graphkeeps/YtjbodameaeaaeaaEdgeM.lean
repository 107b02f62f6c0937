/- Plain of a net; the document's Copy. -/
import Derived.Test.YtjbodameaeaaeaaEdgeI
namespace Go.Proofs.Ytjbodameaeaaeaa
open Go.RowKit

theorem owns_nil {w : World} {base e : Nat} {n cap : Nat} {ao : Option Addr} {xs : List Value} (h : w.ownsRow base e 4 (.slice ao n cap) n xs) : ao = none → n = 0 ∧ cap = 0 := fun t => by
  subst t
  rcases h.2 with ⟨h1, h2⟩ | ⟨g, cp, cur, h1, _⟩
  · simp only [Value.slice.injEq] at h1; exact ⟨h2, h1.2.2⟩
  · simp at h1

set_option maxRecDepth 100000 in
set_option maxHeartbeats 1000000 in
theorem plain_calls (w : World) (B p : Nat) (nodes : Int) (es : List Ed) (h : NetAt w B p nodes es) (hb : es.length * 32 ≤ 140737488355328) :
    Calls Try.prog 13 #[.pointer (some ⟨p, 0, none⟩)] w fun v w' => ∃ ao' cap', v = .returned (.agg #[.int .i64 nodes, .slice ao' es.length cap']) ∧ w'.ownsRow w.heap.size 39 4 (.slice ao' es.length cap') es.length (evals es) ∧ Kept w w' := by
  have g0 := h.c0
  obtain ⟨ao, cap, g1, O0, _⟩ := h.c1
  generalize hn : es.length = n at *
  have HE := hid_of (ERow.of_owns O0)
  have hnil := owns_nil O0
  have lp : p < w.heap.size := lt_cell g0
  clear O0 h
  have KS : Kept w (w.alloc (Obj.cells #[.int .i64 0, .slice none 0 0] 24)) := (Kept.refl w).alloc _
  have s0 : (w.alloc (Obj.cells #[.int .i64 0, .slice none 0 0] 24)).cell? ⟨w.heap.size, 0, none⟩ = some (.int .i64 0) := by simp [go_sem]
  have s1 : (w.alloc (Obj.cells #[.int .i64 0, .slice none 0 0] 24)).cell? ⟨w.heap.size, 1, none⟩ = some (.slice none 0 0) := by simp [go_sem]
  have s2 : (w.alloc (Obj.cells #[.int .i64 0, .slice none 0 0] 24)).frozen? ⟨w.heap.size, 0, none⟩ = false := by simp [go_sem]
  have s3 : (w.alloc (Obj.cells #[.int .i64 0, .slice none 0 0] 24)).frozen? ⟨w.heap.size, 1, none⟩ = false := by simp [go_sem]
  have hz2 : (w.alloc (Obj.cells #[.int .i64 0, .slice none 0 0] 24)).heap.size = w.heap.size + 1 := by simp
  go_enter Try.func13, Try.ntmps13
  go_wp2_with fail
  generalize w.alloc (Obj.cells #[.int .i64 0, .slice none 0 0] 24) = W1 at KS s0 s1 s2 s3 hz2 ⊢
  have CC := hid_of (fun m => clone_calls ao n cap es (W1.drewN m) ((HE.out.kept KS).kept ((Kept.refl _).drewN m)) hb hnil)
  refine Ord.region [(0, 0), (1, 0), (2, 0), (3, 1), (4, 0), (5, 0), (6, 0), (7, 1), (8, 2), (9, 0), (10, 2)] (fun w' => Kept w w') (by kernel_rfl) (by kernel_rfl) (by kernel_rfl) (by kernel_rfl) (fun _ _ d _ _ h => by cases d <;> exact h) (KS.drewN _) ?_
  repeat
    refine Ord.step rfl (fun Ko hK => ?_)
    simp only [Ord.body]
    go_simp
    first
      | (refine hK _ _ ?_; clear hK Ko)
      | (refine ⟨_, fun w' hS => (by have c0 := hS.cell g0; simp only [c0, Result.andThen]; rfl), hK _ _ ?_⟩; clear hK Ko)
      | (refine ⟨_, fun w' hS => (by have c0 := hS.cell g1; simp only [c0, Result.andThen]; rfl), hK _ _ ?_⟩; clear hK Ko)
      | (go_at_call 21; refine (CC.out _).mono ?_; rintro e wf ⟨ao', cap', rfl, O, K6⟩; refine ⟨(KS.drewN _).trans K6, hK _ _ ?_⟩; clear hK Ko; have KN := ((Kept.refl W1).drewN _).trans K6; have t0 := KN.cell s0; have t1 := KN.cell s1; have t2 := (Below.frozen (p := ⟨w.heap.size, 0, none⟩) KN (lt_cell s0)).trans s2; have t3 := (Below.frozen (p := ⟨w.heap.size, 1, none⟩) KN (lt_cell s1)).trans s3; obtain ⟨u1, u2, u3, u4⟩ := box2w t0 t1 (.int .i64 nodes) (.slice ao' n cap'))
      | (refine ⟨((KS.trans KN).setCell (by simp only; omega) _).setCell (by simp only; omega) _, hK _ _ ?_⟩; clear hK Ko)
  refine Ord.done ?_
  have O1 : wf.ownsRow (w.heap.size + 1) 39 4 (.slice ao' n cap') n (evals es) := by
    have hb0 : W1.heap.size = w.heap.size + 1 := by omega
    rw [← hb0]; exact O
  have O2 := ownsRow_setCell_below (ownsRow_setCell_below O1 (a := ⟨w.heap.size, 0, none⟩) (by simp only; omega) (.int .i64 nodes)) (a := ⟨w.heap.size, 1, none⟩) (by simp only; omega) (.slice ao' n cap')
  have KK := ((KS.trans KN).setCell (p := ⟨w.heap.size, 0, none⟩) (by simp only; omega) (.int .i64 nodes)).setCell (p := ⟨w.heap.size, 1, none⟩) (by simp only; omega) (.slice ao' n cap')
  go_wp2
  refine bodyPost_ret (v := .agg #[.int .i64 nodes, .slice ao' n cap']) (by simp [results, Try.results13, go_sem, u3, u4]) rfl ⟨ao', cap', rfl, O2.mono (by omega), KK⟩

theorem take_snoc (es : List Ed) (k : Nat) (hk : k < es.length) : es.take (k + 1) = es.take k ++ [edAt es k] := by
  have e1 : edAt es k = es[k] := by simp [edAt, List.getD, hk]
  rw [List.take_succ_eq_append_getElem hk, e1]

set_option maxRecDepth 100000 in
set_option maxHeartbeats 2000000 in
theorem copyR_calls (nodes : Int) (ao : Option Addr) (n cap : Nat) (es : List Ed) (w : World) (h : ERow w ao n cap es) (hb : n * 32 ≤ 140737488355328) :
    Calls Try.prog 12 #[.agg #[.int .i64 nodes, .slice ao n cap]] w fun v w' => ∃ ao' cap', v = .returned (.agg #[.int .i64 nodes, .slice ao' n cap']) ∧ w'.ownsRow w.heap.size 39 4 (.slice ao' n cap') n (evals es) ∧ Kept w w' := by
  have hl1 : n ≤ es.length := Nat.le_of_eq h.len
  have hl2 : es.length ≤ n := Nat.le_of_eq h.len.symm
  have hr := h.room
  have hm := h.most
  unfold maxLen at hm
  obtain ⟨i0, hi, hz0, hz1, hz2⟩ := infoE
  have KG : Kept w ((w.alloc (Obj.cells #[.int .i64 nodes, .slice ao n cap] 24)).alloc (Obj.cells #[.int .i64 0, .slice none 0 0] 24)) := ((Kept.refl w).alloc _).alloc _
  have g1 : ((w.alloc (Obj.cells #[.int .i64 nodes, .slice ao n cap] 24)).alloc (Obj.cells #[.int .i64 0, .slice none 0 0] 24)).cell? ⟨w.heap.size, 1, none⟩ = some (.slice ao n cap) := by simp [go_sem]
  have f0 : ((w.alloc (Obj.cells #[.int .i64 nodes, .slice ao n cap] 24)).alloc (Obj.cells #[.int .i64 0, .slice none 0 0] 24)).cell? ⟨w.heap.size + 1, 0, none⟩ = some (.int .i64 0) := by simp [go_sem]
  have f1 : ((w.alloc (Obj.cells #[.int .i64 nodes, .slice ao n cap] 24)).alloc (Obj.cells #[.int .i64 0, .slice none 0 0] 24)).cell? ⟨w.heap.size + 1, 1, none⟩ = some (.slice none 0 0) := by simp [go_sem]
  have f2 : ((w.alloc (Obj.cells #[.int .i64 nodes, .slice ao n cap] 24)).alloc (Obj.cells #[.int .i64 0, .slice none 0 0] 24)).frozen? ⟨w.heap.size + 1, 0, none⟩ = false := by simp [go_sem]
  have f3 : ((w.alloc (Obj.cells #[.int .i64 nodes, .slice ao n cap] 24)).alloc (Obj.cells #[.int .i64 0, .slice none 0 0] 24)).frozen? ⟨w.heap.size + 1, 1, none⟩ = false := by simp [go_sem]
  have hz : ((w.alloc (Obj.cells #[.int .i64 nodes, .slice ao n cap] 24)).alloc (Obj.cells #[.int .i64 0, .slice none 0 0] 24)).heap.size = w.heap.size + 2 := by simp
  go_enter Try.func12, Try.ntmps12
  go_wp2_with fail
  generalize (w.alloc (Obj.cells #[.int .i64 nodes, .slice ao n cap] 24)).alloc (Obj.cells #[.int .i64 0, .slice none 0 0] 24) = W1 at KG g1 f0 f1 f2 f3 hz ⊢
  have HR := hid_of (h.kept KG)
  have N0 : NetAt (W1.alloc (Obj.cells #[.int .i64 nodes, .slice none 0 0] 24)) W1.heap.size (w.heap.size + 2) nodes [] := by
    rw [← hz]
    exact ⟨by simp [go_sem], ⟨none, 0, by simp [go_sem], World.ownsRow_nil _ _ _ _, by simp [Value.ownBlock]⟩, by simp [go_sem], by simp [go_sem], Nat.le_refl _, fun q => by simp [go_sem]⟩
  have HZ := hid_of hz
  clear h hz
  go_loopw [4] (fun i wr => ∃ (k : Nat), k ≤ n ∧ i = .int .i64 k ∧ NetAt wr W1.heap.size (w.heap.size + 2) nodes (es.take k) ∧ Kept W1 wr) (fun i _ => n - (intOf i).toNat)
  case atStart => exact ⟨0, by omega, rfl, N0, (Kept.refl _).alloc _⟩
  case round =>
    obtain ⟨k, hk, rfl, R, K⟩ := hrel
    clear N0
    have p1 := K.cell g1
    by_cases hgo : (k : Int) < (n : Int)
    · obtain ⟨b, off, rfl, hc⟩ := HR.out.cell (by omega)
      obtain ⟨c1, c2, c3, c4⟩ := hc k (by omega)
      have d1 := K.cell c1
      have d2 := K.cell c2
      have d3 := K.cell c3
      have d4 := K.cell c4
      clear hc c1 c2 c3 c4
      have TT := take_snoc es k (by omega)
      have hlen : (es.take k).length = k := by simp; omega
      have HL' : Hid (∃ L', es.take (k + 1) = L') := ⟨_, rfl⟩
      obtain ⟨L', hL'⟩ := HL'.out
      have EL' := hid_of hL'
      rw [hL'] at TT
      clear hL' HL'
      generalize es.take k = L at TT hlen R
      generalize edAt es k = ed at d1 d2 d3 d4 TT
      obtain ⟨ef, et, ec, ek⟩ := ed
      simp only at d1 d2 d3 d4
      obtain ⟨bo, cp, m1, m2, m3⟩ := R.c1
      have m0 := R.c0
      have m4 := R.z0
      have m5 := R.z1
      have mge := R.ge
      rw [hlen] at m1 m2 m3
      have lp : w.heap.size + 2 < wr.heap.size := lt_cell m1
      have bB : W1.heap.size ≤ wr.heap.size := K.size
      have NW := hid_of (cell_new4 wr.drew 39 ⟨ef, et, ec, ek⟩)
      have HM := hid_of (World.ownsRow.alloc m2.drew (Obj.cells #[.int .i64 ef, .int .i64 et, .int .i64 ec, .int .i64 ek] 39))
      have EXT := hid_of EL'.out
      go_wp2_with fail
      go_region_law ((refine step_append_lies _ (by rfl) (.tmp 16) (.tmp 22) 22 (by rfl) W1.heap.size 39 i0 _ 4 32 Try.underlying22 hi hz0 hz1 hz2 rfl (by decide) _ _ _ (by rfl) HM.out ⟨wr.heap.size, 0, none⟩ 1 1 (ecells ⟨ef, et, ec, ek⟩) (by rfl) rfl NW.out (ecells_one _) (by decide) (by unfold maxLen; omega) (by omega) (by simp; omega) (wr.heap.size + 1) (by simp) ?_; intro g cap3 w1 own grow hat hlt; obtain ⟨ao5, cap5, e5, q1, q2, q3, q4⟩ := net_grow (wr := wr.drew) (o := Obj.cells #[.int .i64 ef, .int .i64 et, .int .i64 ec, .int .i64 ek] 39) (x := ⟨ef, et, ec, ek⟩) hlen.symm m0 m1 m3 m4 m5 mge R.zz own grow (by rcases hat with t | t; exact .inl t.symm; exact .inr (by rw [t]; rfl)); have KX : Kept W1 (w1.setCell ⟨w.heap.size + 2, 1, none⟩ (.slice (some ⟨g, 0, none⟩) (k + 1) cap3)) := ((Below.grown (K.drew.alloc _) grow (K.drew.alloc _).size (fun j hj => (m2.lt j hj).1)).setCell (by have := HZ.out; simp only; omega) _)))
      all_goals
        rw [← TT] at q3
        have Q3 : Hid (NetAt (w1.setCell ⟨w.heap.size + 2, 1, none⟩ (.slice (some ⟨g, 0, none⟩) (k + 1) cap3)) W1.heap.size (w.heap.size + 2) nodes (es.take (k + 1))) := by rw [EXT.out]; exact q3
        have HX := hid_of KX
        clear q3 KX own grow hat q1 q2 q4 HM NW d1 d2 d3 d4 m0 m1 m2 m3 m4 m5 R TT
        go_wp2_with fail
        go_roundw
        case rel => exact ⟨k + 1, by omega, by go_num, Q3.out, HX.out⟩
        case measure => simp [intOf]; omega
    · obtain rfl : k = n := by omega
      have hall : es.take k = es := List.take_of_length_le hl2
      rw [hall] at R
      obtain ⟨bo, cp, m1, m2, m3⟩ := R.c1
      have m0 := R.c0
      have hlen : es.length = k := by omega
      rw [hlen] at m1 m2 m3
      have hlt : w.heap.size + 1 < W1.heap.size := by have := HZ.out; omega
      have s0 := K.cell f0
      have s1 := K.cell f1
      have s2 := (Below.frozen (p := ⟨w.heap.size + 1, 0, none⟩) K (lt_cell f0)).trans f2
      have s3 := (Below.frozen (p := ⟨w.heap.size + 1, 1, none⟩) K (lt_cell f1)).trans f3
      obtain ⟨t1, t2, t3, t4⟩ := box2w s0 s1 (.int .i64 nodes) (.slice bo k cp)
      have O2 := ownsRow_setCell_below (ownsRow_setCell_below m2 (a := ⟨w.heap.size + 1, 0, none⟩) hlt (.int .i64 nodes)) (a := ⟨w.heap.size + 1, 1, none⟩) hlt (.slice bo k cp)
      have KK := ((KG.trans K).setCell (p := ⟨w.heap.size + 1, 0, none⟩) (by simp) (.int .i64 nodes)).setCell (p := ⟨w.heap.size + 1, 1, none⟩) (by simp) (.slice bo k cp)
      clear R HR hlen
      go_wp2
      refine bodyPost_ret (v := .agg #[.int .i64 nodes, .slice bo k cp]) (by simp [results, Try.results12, go_sem, t3, t4]) rfl ⟨bo, cp, rfl, O2.mono (by have := HZ.out; omega), KK⟩
end Go.Proofs.Ytjbodameaeaaeaa
