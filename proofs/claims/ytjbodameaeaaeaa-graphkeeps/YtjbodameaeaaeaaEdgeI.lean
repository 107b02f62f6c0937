/- AddEdge. -/
import Derived.Test.YtjbodameaeaaeaaEdgeH
import Derived.Deep.RegionLaw
namespace Go.Proofs.Ytjbodameaeaaeaa
open Go.RowKit

theorem grown_of_kept {w w' : World} (h : Kept w w') (row : Option Nat) : w.grownBy w' row := ⟨h.os, h.tape, h.output, h.size, fun k hk _ => h.block k hk⟩

theorem NetAt.kept {w w' : World} {B p : Nat} {nodes : Int} {es : List Ed} (h : NetAt w B p nodes es) (K : Kept w w') : NetAt w' B p nodes es := by
  obtain ⟨ao, cap, c1, O, hp⟩ := h.c1
  have lp : p < w.heap.size := lt_cell c1
  exact ⟨K.cell h.c0, ⟨ao, cap, K.cell c1, O.kept (grown_of_kept K none) (by cases e : (Value.slice ao es.length cap).ownBlock <;> simp), hp⟩, (Below.frozen (p := ⟨p, 0, none⟩) K lp).trans h.z0, (Below.frozen (p := ⟨p, 1, none⟩) K lp).trans h.z1, h.ge, fun q => (Below.frozen (p := ⟨p, q, none⟩) K lp).trans (h.zz q)⟩

/-- What AddEdge makes of a graph, and its answer. -/
def addOf (nodes : Int) (es : List Ed) (e : Ed) : List Ed × Int × Int :=
  if 4096 ≤ es.length then (es, 0, 3) else if badOf nodes e ≠ 0 then (es, 0, badOf nodes e) else (es ++ [e], (es.length : Int), 0)

set_option maxRecDepth 100000 in
set_option maxHeartbeats 2000000 in
theorem add_calls (w : World) (B p : Nat) (nodes : Int) (es : List Ed) (e : Ed) (h : NetAt w B p nodes es) (es' : List Ed) (r c : Int) (ha : Hid (addOf nodes es e = (es', r, c))) :
    Calls Try.prog 14 #[.pointer (some ⟨p, 0, none⟩), e.val] w fun v w' => v = .returned (.tuple #[.int .i64 r, .int .i64 c]) ∧ NetAt w' B p nodes es' ∧ ∀ W : World, W.heap.size ≤ B → Kept W w → Kept W w' := by
  obtain ⟨ef, et, ec, ek⟩ := e
  have hs := ha.out
  unfold addOf at hs
  have H1 := h.alloc (Obj.cells #[.int .i64 ef, .int .i64 et, .int .i64 ec, .int .i64 ek] 39)
  obtain ⟨ao, cap, m1, m2, m3⟩ := H1.c1
  have m0 := H1.c0
  have lp : p < w.heap.size := by obtain ⟨_, _, t, _⟩ := h.c1; exact lt_cell t
  by_cases hb : 4096 ≤ es.length
  · rw [if_pos hb] at hs
    simp only [Prod.mk.injEq] at hs
    obtain ⟨rfl, rfl, rfl⟩ := hs
    have hb' : (4096 : Int) ≤ (es.length : Int) := by omega
    clear ha m2 m3
    go_enter Try.func14, Try.ntmps14
    go_wp2_with fail
    go_ret2
    exact ⟨rfl, H1, fun W _ K => K.alloc _⟩
  rw [if_neg hb] at hs
  have hb' : ¬ (4096 : Int) ≤ (es.length : Int) := by omega
  have C := hid_of (fun w => wrong_calls nodes ⟨ef, et, ec, ek⟩ w)
  have y0 : (w.alloc (Obj.cells #[.int .i64 ef, .int .i64 et, .int .i64 ec, .int .i64 ek] 39)).cell? ⟨w.heap.size, 0, none⟩ = some (.int .i64 ef) := by simp [go_sem]
  have y1 : (w.alloc (Obj.cells #[.int .i64 ef, .int .i64 et, .int .i64 ec, .int .i64 ek] 39)).cell? ⟨w.heap.size, 1, none⟩ = some (.int .i64 et) := by simp [go_sem]
  have y2 : (w.alloc (Obj.cells #[.int .i64 ef, .int .i64 et, .int .i64 ec, .int .i64 ek] 39)).cell? ⟨w.heap.size, 2, none⟩ = some (.int .i64 ec) := by simp [go_sem]
  have y3 : (w.alloc (Obj.cells #[.int .i64 ef, .int .i64 et, .int .i64 ec, .int .i64 ek] 39)).cell? ⟨w.heap.size, 3, none⟩ = some (.int .i64 ek) := by simp [go_sem]
  have hlen : Hid (∃ N : Nat, es.length = N) := ⟨_, rfl⟩
  have HS := hid_of hs
  clear ha hs
  go_enter Try.func14, Try.ntmps14
  go_wp2_with fail
  have KE0 : Kept w (w.alloc (Obj.cells #[.int .i64 ef, .int .i64 et, .int .i64 ec, .int .i64 ek] 39)) := (Kept.refl w).alloc _
  generalize w.alloc (Obj.cells #[.int .i64 ef, .int .i64 et, .int .i64 ec, .int .i64 ek] 39) = W1 at H1 m0 m1 m2 m3 y0 y1 y2 y3 KE0 ⊢
  refine Ord.region [(0, 1), (1, 0), (2, 0), (3, 0), (4, 0), (5, 1), (6, 2), (7, 0)] (fun w' => Kept W1 w') (by kernel_rfl) (by kernel_rfl) (by kernel_rfl) (by kernel_rfl) (fun _ _ d _ _ h => by cases d <;> exact h) ((Kept.refl _).drewN _) ?_
  repeat
    refine Ord.step rfl (fun Ko hK => ?_)
    simp only [Ord.body]
    go_simp
    first
      | (refine hK _ _ ?_; clear hK Ko)
      | (refine ⟨_, fun w' hS => (by have c0 := hS.cell y0; have c1 := hS.cell y1; have c2 := hS.cell y2; have c3 := hS.cell y3; simp only [c0, c1, c2, c3, Result.andThen]; rfl), hK _ _ ?_⟩; clear hK Ko)
      | (refine ⟨_, fun w' hS => (by have c0 := hS.cell m0; simp only [c0, Result.andThen]; rfl), hK _ _ ?_⟩; clear hK Ko)
      | (go_at_call 18; refine (C.out _).mono ?_; rintro e wf ⟨rfl, K6⟩; refine ⟨((Kept.refl _).drewN _).trans K6, hK _ _ ?_⟩; clear hK Ko)
  refine Ord.done ?_
  have KN := ((Kept.refl W1).drewN _).trans K6
  have H2 := H1.kept KN
  clear K6
  by_cases hbd : badOf nodes ⟨ef, et, ec, ek⟩ = 0
  · have q : (badOf nodes ⟨ef, et, ec, ek⟩ != 0) = false := by simp [hbd]
    obtain ⟨ao2, cap2, k1, k2, k3⟩ := H2.c1
    have k0 := H2.c0
    have k4 := H2.z0
    have k5 := H2.z1
    have v0 := KN.cell y0
    have v1 := KN.cell y1
    have v2 := KN.cell y2
    have v3 := KN.cell y3
    have bB : B ≤ wf.heap.size := by have := lt_cell k1; have := H2.ge; simp only at *; omega
    have lpf : p < wf.heap.size := lt_cell k1
    obtain ⟨i0, hi, hz0, hz1, hz2⟩ := infoE
    have NW := hid_of (cell_new4 wf.drew 39 ⟨ef, et, ec, ek⟩)
    have HM := hid_of (World.ownsRow.alloc k2.drew (Obj.cells #[.int .i64 ef, .int .i64 et, .int .i64 ec, .int .i64 ek] 39))
    clear y0 y1 y2 y3 m0 m1 m2 m3 H1
    go_wp2_with fail
    go_region_law ((refine step_append_lies _ (by rfl) (.tmp 29) (.tmp 31) 22 (by rfl) B 39 i0 _ 4 32 Try.underlying22 hi hz0 hz1 hz2 rfl (by decide) _ _ _ (by rfl) HM.out ⟨wf.heap.size, 0, none⟩ 1 1 (ecells ⟨ef, et, ec, ek⟩) (by rfl) rfl NW.out (ecells_one _) (by decide) (by unfold maxLen; omega) (by omega) (by simp; omega) (wf.heap.size + 1) (by simp) ?_; intro g cap3 w1 own grow hat hlt; obtain ⟨ao5, cap5, e5, q1, q2, q3, q4⟩ := net_grow (wr := wf.drew) (o := Obj.cells #[.int .i64 ef, .int .i64 et, .int .i64 ec, .int .i64 ek] 39) (x := ⟨ef, et, ec, ek⟩) rfl k0 k1 k3 k4 k5 H2.ge H2.zz own grow (by rcases hat with t | t; exact .inl t.symm; exact .inr (by rw [t]; rfl)); have KX : ∀ W : World, W.heap.size ≤ B → Kept W w → Kept W (w1.setCell ⟨p, 1, none⟩ (.slice (some ⟨g, 0, none⟩) (es.length + 1) cap3)) := fun W hB KW => ((Below.grown ((((KW.trans KE0).trans KN).drew).alloc _) grow ((((KW.trans KE0).trans KN).drew).alloc _).size (fun j hj => Nat.le_trans hB (k2.lt j hj).1)).setCell (by have := H2.ge; simp only; omega) _)))
    all_goals
      rw [← e5] at q4
      have hs := HS.out
      rw [if_neg (by simpa using hbd)] at hs
      simp only [Prod.mk.injEq] at hs
      obtain ⟨rfl, rfl, rfl⟩ := hs
      have HQ := hid_of q3
      have HX := hid_of KX
      clear HS q3 KX own grow hat q1 q2 HM NW
    all_goals go_wp2_with fail
    all_goals go_ret2
    all_goals exact ⟨by congr 3, HQ.out, HX.out⟩
  · have q : (badOf nodes ⟨ef, et, ec, ek⟩ != 0) = true := by simp [hbd]
    have hs := HS.out
    rw [if_pos hbd] at hs
    simp only [Prod.mk.injEq] at hs
    obtain ⟨rfl, rfl, rfl⟩ := hs
    clear HS
    go_wp2_with fail
    go_ret2
    exact ⟨rfl, H2, fun W _ K => (K.trans KE0).trans KN⟩
end Go.Proofs.Ytjbodameaeaaeaa
