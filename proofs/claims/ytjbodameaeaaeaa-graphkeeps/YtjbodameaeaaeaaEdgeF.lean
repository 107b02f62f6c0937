/- Reverse, in the program. -/
import Derived.Test.YtjbodameaeaaeaaEdgeE
namespace Go.Proofs.Ytjbodameaeaaeaa
open Go.RowKit

/-- An edge turned about. -/
def turn (e : Ed) : Ed := ⟨e.t, e.f, e.c, e.k⟩
/-- The first k edges turned about. -/
def revTo (es : List Ed) (k : Nat) : List Ed := (es.take k).map turn ++ es.drop k

theorem revTo_zero (es : List Ed) : revTo es 0 = es := by simp [revTo]
theorem revTo_all (es : List Ed) : revTo es es.length = es.map turn := by simp [revTo]
theorem revTo_len (es : List Ed) (k : Nat) : (revTo es k).length = es.length := by simp [revTo]; omega

theorem evals_set (es : List Ed) : ∀ (k : Nat), k < es.length → ∀ e : Ed, e.c = (edAt es k).c → e.k = (edAt es k).k → ((evals es).set (k * 4) (.int .i64 e.f)).set (k * 4 + 1) (.int .i64 e.t) = evals (es.set k e) := by
  induction es with
  | nil => intro k hk; simp at hk
  | cons a es ih =>
    intro k hk e h1 h2
    match k with
    | 0 =>
      obtain ⟨f, t, c, k⟩ := e
      simp only [edAt, List.getD_cons_zero] at h1 h2
      subst h1 h2
      simp [evals, ecells]
    | k + 1 =>
      have h := ih k (by simpa using hk) e h1 h2
      have l4 : (ecells a).length = 4 := rfl
      show ((ecells a ++ evals es).set ((k + 1) * 4) _).set ((k + 1) * 4 + 1) _ = ecells a ++ evals (es.set k e)
      rw [← h, List.set_append_right _ _ (by rw [l4]; omega), List.set_append_right _ _ (by rw [l4]; omega), l4, show (k + 1) * 4 - 4 = k * 4 by omega, show (k + 1) * 4 + 1 - 4 = k * 4 + 1 by omega]

theorem revTo_succ (es : List Ed) (k : Nat) (hk : k < es.length) : revTo es (k + 1) = (revTo es k).set k (turn (edAt es k)) := by
  unfold revTo
  have l : ((es.take k).map turn).length = k := by simp; omega
  have e1 : edAt es k = es[k] := by simp [edAt, List.getD, hk]
  rw [List.set_append_right _ _ (by omega), l, Nat.sub_self, List.drop_eq_getElem_cons hk, List.set_cons_zero, List.take_succ_eq_append_getElem hk, List.map_append, List.append_assoc, e1]
  rfl

theorem revTo_at (es : List Ed) (k : Nat) (hk : k < es.length) : edAt (revTo es k) k = edAt es k := by
  unfold edAt revTo
  have l : ((es.take k).map turn).length = k := by simp; omega
  simp only [List.getD]
  rw [List.getElem?_append_right (by omega), l, Nat.sub_self, List.getElem?_drop]
  simp

/-- The state behind k edges. -/
structure RLoop (W : World) (B : Nat) (ao : Option Addr) (n cap : Nat) (es : List Ed) (k : Nat) (wr : World) : Prop where
  own : wr.ownsRow B 39 4 (.slice ao n cap) n (evals (revTo es k))
  kept : Kept W wr

theorem RLoop.step {W : World} {B g n cap : Nat} {es : List Ed} {k : Nat} {wr : World} {o : Obj} (h : RLoop W B (some ⟨g, 0, none⟩) n cap es k wr) (hk : k < es.length) (hB : W.heap.size ≤ B) (m : Nat) :
    RLoop W B (some ⟨g, 0, none⟩) n cap es (k + 1) (((((wr.alloc o).drewN m).setCell ⟨g, k * 4, none⟩ (.int .i64 (edAt es k).t))).setCell ⟨g, k * 4 + 1, none⟩ (.int .i64 (edAt es k).f)) := by
  have o0 : ((wr.alloc o).drewN m).ownsRow B 39 4 (.slice (some ⟨g, 0, none⟩) n cap) n (evals (revTo es k)) := h.own.alloc o
  obtain ⟨o1, g1⟩ := o0.stored (k * 4) (.int .i64 (edAt es k).t)
  obtain ⟨o2, g2⟩ := o1.stored (k * 4 + 1) (.int .i64 (edAt es k).f)
  have hg : B ≤ g := (h.own.lt g rfl).1
  have e := evals_set (revTo es k) k (by rw [revTo_len]; exact hk) (turn (edAt es k)) (by rw [revTo_at es k hk]; rfl) (by rw [revTo_at es k hk]; rfl)
  rw [← revTo_succ es k hk] at e
  refine ⟨?_, ?_⟩
  · rw [← e]; exact o2
  · exact (((h.kept.alloc o).drewN m).setCell (by simp only; omega) _).setCell (by simp only; omega) _

set_option maxRecDepth 100000 in
set_option maxHeartbeats 2000000 in
theorem rev_calls (nodes : Int) (ao : Option Addr) (n cap : Nat) (es : List Ed) (w : World) (h : ERow w ao n cap es) (hb : n * 32 ≤ 140737488355328) (hnil : ao = none → n = 0 ∧ cap = 0) :
    Calls Try.prog 10 #[.agg #[.int .i64 nodes, .slice ao n cap]] w fun v w' => ∃ ao' cap', v = .returned (.agg #[.int .i64 nodes, .slice ao' n cap']) ∧ w'.ownsRow w.heap.size 39 4 (.slice ao' n cap') n (evals (es.map turn)) ∧ Kept w w' := by
  have hl1 : n ≤ es.length := Nat.le_of_eq h.len
  have hl2 : es.length ≤ n := Nat.le_of_eq h.len.symm
  have hr := h.room
  have hm := h.most
  unfold maxLen at hm
  have KG : Kept w ((w.alloc (Obj.cells #[.int .i64 nodes, .slice ao n cap] 24)).alloc (Obj.cells #[.int .i64 0, .slice none 0 0] 24)) := ((Kept.refl w).alloc _).alloc _
  have g0 : ((w.alloc (Obj.cells #[.int .i64 nodes, .slice ao n cap] 24)).alloc (Obj.cells #[.int .i64 0, .slice none 0 0] 24)).cell? ⟨w.heap.size, 0, none⟩ = some (.int .i64 nodes) := by simp [go_sem]
  have g1 : ((w.alloc (Obj.cells #[.int .i64 nodes, .slice ao n cap] 24)).alloc (Obj.cells #[.int .i64 0, .slice none 0 0] 24)).cell? ⟨w.heap.size, 1, none⟩ = some (.slice ao n cap) := by simp [go_sem]
  have f0 : ((w.alloc (Obj.cells #[.int .i64 nodes, .slice ao n cap] 24)).alloc (Obj.cells #[.int .i64 0, .slice none 0 0] 24)).cell? ⟨w.heap.size + 1, 0, none⟩ = some (.int .i64 0) := by simp [go_sem]
  have f1 : ((w.alloc (Obj.cells #[.int .i64 nodes, .slice ao n cap] 24)).alloc (Obj.cells #[.int .i64 0, .slice none 0 0] 24)).cell? ⟨w.heap.size + 1, 1, none⟩ = some (.slice none 0 0) := by simp [go_sem]
  have f2 : ((w.alloc (Obj.cells #[.int .i64 nodes, .slice ao n cap] 24)).alloc (Obj.cells #[.int .i64 0, .slice none 0 0] 24)).frozen? ⟨w.heap.size + 1, 0, none⟩ = false := by simp [go_sem]
  have f3 : ((w.alloc (Obj.cells #[.int .i64 nodes, .slice ao n cap] 24)).alloc (Obj.cells #[.int .i64 0, .slice none 0 0] 24)).frozen? ⟨w.heap.size + 1, 1, none⟩ = false := by simp [go_sem]
  have hz : ((w.alloc (Obj.cells #[.int .i64 nodes, .slice ao n cap] 24)).alloc (Obj.cells #[.int .i64 0, .slice none 0 0] 24)).heap.size = w.heap.size + 2 := by simp
  go_enter Try.func10, Try.ntmps10
  go_wp2_with fail
  generalize (w.alloc (Obj.cells #[.int .i64 nodes, .slice ao n cap] 24)).alloc (Obj.cells #[.int .i64 0, .slice none 0 0] 24) = W1 at KG g0 g1 f0 f1 f2 f3 hz ⊢
  refine (clone_calls ao n cap es W1 (h.kept KG) hb hnil).mono ?_
  rintro v wb ⟨ao', cap', rfl, O, K1⟩
  have HR := hid_of (h.kept KG)
  have L0 : RLoop W1 W1.heap.size ao' n cap' es 0 wb := ⟨by rw [revTo_zero]; exact O, K1⟩
  have p1 := K1.cell g1
  clear h O hnil
  go_wp2_with fail
  clear p1 K1
  go_loopw [12] (fun i wr => ∃ (k : Nat), k ≤ n ∧ i = .int .i64 k ∧ RLoop W1 W1.heap.size ao' n cap' es k wr) (fun i _ => n - (intOf i).toNat)
  case atStart => exact ⟨0, by omega, rfl, L0⟩
  case round =>
    obtain ⟨k, hk, rfl, R⟩ := hrel
    clear L0
    have K := R.kept
    by_cases hgo : (k : Int) < (n : Int)
    · obtain ⟨b, off, rfl, hc⟩ := HR.out.cell (by omega)
      obtain ⟨c1, c2, c3, c4⟩ := hc k (by omega)
      have d1 := K.cell c1
      have d2 := K.cell c2
      have d3 := K.cell c3
      have d4 := K.cell c4
      clear hc c1 c2 c3 c4
      obtain ⟨g, cp, e, hB, hlt⟩ : ∃ g cp, Value.slice ao' n cap' = .slice (some ⟨g, 0, none⟩) n cp ∧ W1.heap.size ≤ g ∧ g < wr.heap.size := by
        rcases R.own.2 with ⟨_, h0⟩ | ⟨q, c, cur, hv, hb, hg, _⟩
        · omega
        · refine ⟨q, c, hv, hb, ?_⟩
          rcases Nat.lt_or_ge q wr.heap.size with hlt | hge
          · exact hlt
          · rw [Array.getElem?_eq_none hge] at hg; cases hg
      simp only [Value.slice.injEq, true_and] at e
      obtain ⟨rfl, rfl⟩ := e
      have ST := hid_of (fun o m => R.step (o := o) (by omega : k < es.length) (Nat.le_refl _) m)
      generalize edAt es k = ed at d1 d2 d3 d4 ST
      obtain ⟨ef, et, ec, ek⟩ := ed
      simp only at d1 d2 d3 d4
      have EK := (ERow.of_owns R.own).room
      have EM := (ERow.of_owns R.own).most
      unfold maxLen at EM
      have q1 : ∃ x, wr.cell? ⟨g, k * 4, none⟩ = some (.int .i64 x) := ⟨_, (R.own.cellAt _ (by omega)).trans (evals_get _ k (by rw [revTo_len]; omega)).1⟩
      have q2 : ∃ x, wr.cell? ⟨g, k * 4 + 1, none⟩ = some (.int .i64 x) := ⟨_, (R.own.cellAt _ (by omega)).trans (evals_get _ k (by rw [revTo_len]; omega)).2.1⟩
      have q3 := R.own.frozenAt (k * 4)
      have q4 := R.own.frozenAt (k * 4 + 1)
      obtain ⟨x1, q1⟩ := q1
      obtain ⟨x2, q2⟩ := q2
      have hne : g ≠ wr.heap.size := by omega
      have KE : Kept wr (wr.alloc (Obj.cells #[.int .i64 ef, .int .i64 et, .int .i64 ec, .int .i64 ek] 39)) := (Kept.refl _).alloc _
      have r1 := KE.cell q1
      have r2 := KE.cell q2
      have r3 := (Below.frozen (p := ⟨g, k * 4, none⟩) KE hlt).trans q3
      have r4 := (Below.frozen (p := ⟨g, k * 4 + 1, none⟩) KE hlt).trans q4
      have y0 : (wr.alloc (Obj.cells #[.int .i64 ef, .int .i64 et, .int .i64 ec, .int .i64 ek] 39)).cell? ⟨wr.heap.size, 0, none⟩ = some (.int .i64 ef) := by simp [go_sem]
      have y1 : (wr.alloc (Obj.cells #[.int .i64 ef, .int .i64 et, .int .i64 ec, .int .i64 ek] 39)).cell? ⟨wr.heap.size, 1, none⟩ = some (.int .i64 et) := by simp [go_sem]
      have STM := hid_of (ST.out (Obj.cells #[.int .i64 ef, .int .i64 et, .int .i64 ec, .int .i64 ek] 39))
      clear ST R q1 q2 q3 q4 HR
      go_wp2_with fail
      clear d1 d2 d3 d4
      generalize wr.alloc (Obj.cells #[.int .i64 ef, .int .i64 et, .int .i64 ec, .int .i64 ek] 39) = W3 at KE r1 r2 r3 r4 y0 y1 STM ⊢
      refine Ord.region [(0, 0), (1, 0), (2, 0), (3, 0), (4, 0), (5, 1), (6, 0), (7, 1), (8, 0), (9, 0), (10, 2), (11, 0), (12, 0), (13, 2)] (fun w' => w'.cell? ⟨wr.heap.size, 0, none⟩ = some (.int .i64 ef) ∧ w'.cell? ⟨wr.heap.size, 1, none⟩ = some (.int .i64 et)) (by kernel_rfl) (by kernel_rfl) (by kernel_rfl) (by kernel_rfl) (fun _ _ d _ _ h => by cases d <;> exact h) ⟨y0, y1⟩ ?_
      repeat
        refine Ord.step rfl (fun Ko hK => ?_)
        simp only [Ord.body]
        go_simp
        first
          | (refine hK _ _ ?_; clear hK Ko)
          | (refine ⟨_, fun w' c0 c1 => (by simp only [c0, c1, Result.andThen]; rfl), hK _ _ ?_⟩; clear hK Ko)
      refine Ord.done ?_
      go_wp2_with fail
      go_roundw
      case rel => exact ⟨k + 1, by omega, by go_num, STM.out _⟩
      case measure => simp [intOf]; omega
    · obtain rfl : k = n := by omega
      have OW := R.own
      rw [show k = es.length by omega, revTo_all] at OW
      rw [show es.length = k by omega] at OW
      have hlt : w.heap.size + 1 < W1.heap.size := by omega
      have r0 := K.cell g0
      have s0 := K.cell f0
      have s1 := K.cell f1
      have s2 := (Below.frozen (p := ⟨w.heap.size + 1, 0, none⟩) K (lt_cell f0)).trans f2
      have s3 := (Below.frozen (p := ⟨w.heap.size + 1, 1, none⟩) K (lt_cell f1)).trans f3
      obtain ⟨t1, t2, t3, t4⟩ := box2w s0 s1 (.int .i64 nodes) (.slice ao' k cap')
      have O2 := ownsRow_setCell_below (ownsRow_setCell_below OW (a := ⟨w.heap.size + 1, 0, none⟩) hlt (.int .i64 nodes)) (a := ⟨w.heap.size + 1, 1, none⟩) hlt (.slice ao' k cap')
      have KK := ((KG.trans K).setCell (p := ⟨w.heap.size + 1, 0, none⟩) (by simp) (.int .i64 nodes)).setCell (p := ⟨w.heap.size + 1, 1, none⟩) (by simp) (.slice ao' k cap')
      clear R OW HR
      go_wp2
      refine bodyPost_ret (v := .agg #[.int .i64 nodes, .slice ao' k cap']) (by simp [results, Try.results10, go_sem, t3, t4]) rfl ⟨ao', cap', rfl, O2.mono (by omega), KK⟩
end Go.Proofs.Ytjbodameaeaaeaa
