/- A net with its footprint; AddNode, SetEdge. -/
import Derived.Test.YthefeijgpgcecaaEdgeJ
import Derived.Test.YthefeijgpgcecaaEdgeM
import Derived.Test.YthefeijgpgcecaaFrame
import Derived.Test.YthefeijgpgcecaaOrdZ
import Derived.OneCell
namespace Go.Proofs.Ythefeijgpgcecaa
open Go.RowKit

/-- A net: all that it owns lies in the blocks of F. -/
structure NetF (w : World) (F : Nat → Prop) (p : Nat) (nodes : Int) (es : List Ed) : Prop where
  c0 : w.cell? ⟨p, 0, none⟩ = some (.int .i64 nodes)
  c1 : ∃ ao cap, w.cell? ⟨p, 1, none⟩ = some (.slice ao es.length cap) ∧ w.ownsRow 0 36 4 (.slice ao es.length cap) es.length (evals es) ∧ (Value.slice ao es.length cap).ownBlock ≠ some p ∧ ∀ k, (Value.slice ao es.length cap).ownBlock = some k → F k
  z0 : w.frozen? ⟨p, 0, none⟩ = false
  z1 : w.frozen? ⟨p, 1, none⟩ = false
  own : F p
  lt : ∀ k, F k → k < w.heap.size
  zz : ∀ q, w.frozen? ⟨p, q, none⟩ = false

theorem NetF.at {w : World} {F : Nat → Prop} {p : Nat} {nodes : Int} {es : List Ed} (h : NetF w F p nodes es) : NetAt w 0 p nodes es := by
  obtain ⟨ao, cap, c1, o, n, _⟩ := h.c1
  exact ⟨h.c0, ⟨ao, cap, c1, o, fun e => n e.symm⟩, h.z0, h.z1, Nat.zero_le _, h.zz⟩

theorem NetAt.toF {w : World} {B p : Nat} {nodes : Int} {es : List Ed} (h : NetAt w B p nodes es) : ∃ F, NetF w F p nodes es ∧ ∀ k, F k → B ≤ k := by
  obtain ⟨ao, cap, c1, o, n⟩ := h.c1
  refine ⟨fun k => k = p ∨ (Value.slice ao es.length cap).ownBlock = some k, ⟨h.c0, ⟨ao, cap, c1, o.mono (Nat.zero_le _), fun e => n e.symm, fun k e => .inr e⟩, h.z0, h.z1, .inl rfl, fun k t => ?_, h.zz⟩, fun k t => ?_⟩
  · rcases t with rfl | t
    · exact World.block_lt_of_cell? _ _ h.c0
    · exact (o.lt k t).2
  · rcases t with rfl | t
    · exact h.ge
    · exact (o.lt k t).1

theorem NetF.far {w w' : World} {F G : Nat → Prop} {p : Nat} {nodes : Int} {es : List Ed} (h : NetF w F p nodes es) (C : Ch G w w') (hd : ∀ k, F k → ¬ G k) : NetF w' F p nodes es := by
  obtain ⟨ao, cap, c1, o, n, f⟩ := h.c1
  have hp := h.lt p h.own
  exact ⟨C.cell h.c0 (hd _ h.own), ⟨ao, cap, C.cell c1 (hd _ h.own), C.owns o (fun k e => hd k (f k e)), n, f⟩, (C.frozen hp (hd _ h.own)).trans h.z0, (C.frozen hp (hd _ h.own)).trans h.z1, h.own, fun k t => Nat.lt_of_lt_of_le (h.lt k t) C.size, fun q => (C.frozen hp (hd _ h.own)).trans (h.zz q)⟩
theorem NetF.kept {w w' : World} {F : Nat → Prop} {p : Nat} {nodes : Int} {es : List Ed} (h : NetF w F p nodes es) (K : Kept w w') : NetF w' F p nodes es :=
  h.far (G := fun _ => False) (.of_kept K) (fun _ _ t => t)

/-- What AddNode makes of the number of nodes, and its answer. -/
def addNodeOf (nodes : Int) : Int × Int × Int := if 1024 ≤ nodes then (nodes, 0, 3) else (nodes + 1, nodes, 0)

set_option maxRecDepth 100000 in
set_option maxHeartbeats 1000000 in
theorem addNode_calls (w : World) (F : Nat → Prop) (p : Nat) (nodes : Int) (es : List Ed) (h : NetF w F p nodes es) (h0 : 0 ≤ nodes) (nodes' r c : Int) (hs : Hid (addNodeOf nodes = (nodes', r, c))) :
    Calls Try.prog 14 #[.pointer (some ⟨p, 0, none⟩)] w fun v w' => v = .returned (.tuple #[.int .i64 r, .int .i64 c]) ∧ NetF w' F p nodes' es ∧ Ch F w w' := by
  have e := hs.out
  unfold addNodeOf at e
  have c0 := h.c0
  have z0 := h.z0
  by_cases hb : 1024 ≤ nodes
  · rw [if_pos hb] at e
    simp only [Prod.mk.injEq] at e
    obtain ⟨rfl, rfl, rfl⟩ := e
    have HH := hid_of h
    clear h hs
    go_enter Try.func14, Try.ntmps14
    go_wp2_with fail
    go_ret2
    exact ⟨rfl, HH.out, Ch.refl _ _⟩
  · rw [if_neg hb] at e
    simp only [Prod.mk.injEq] at e
    obtain ⟨rfl, rfl, rfl⟩ := e
    have C : Ch F w (w.setCell ⟨p, 0, none⟩ (.int .i64 (nodes + 1))) := (Ch.refl F w).setCell (p := ⟨p, 0, none⟩) h.own _
    have N : NetF (w.setCell ⟨p, 0, none⟩ (.int .i64 (nodes + 1))) F p (nodes + 1) es := by
      obtain ⟨ao, cap, c1, o, n, f⟩ := h.c1
      refine ⟨World.cell?_setCell_same _ _ _ c0, ⟨ao, cap, ?_, ownsRow_setCell_other o n _, n, f⟩, ?_, ?_, h.own, fun k t => Nat.lt_of_lt_of_le (h.lt k t) C.size, fun q => ?_⟩
      · rw [World.cell?_setCell_other _ _ _ _ (by simp)]; exact c1
      · simpa [go_sem] using h.z0
      · simpa [go_sem] using h.z1
      · simpa [go_sem] using h.zz q
    have NH := hid_of N
    have CH := hid_of C
    clear h hs N C
    go_enter Try.func14, Try.ntmps14
    go_wp2_with fail
    go_ret2
    exact ⟨by first | rfl | (congr 3; omega), NH.out, CH.out⟩

theorem evals_set4 (es : List Ed) : ∀ (k : Nat), k < es.length → ∀ e : Ed, ((((evals es).set (k * 4) (.int .i64 e.f)).set (k * 4 + 1) (.int .i64 e.t)).set (k * 4 + 2) (.int .i64 e.c)).set (k * 4 + 3) (.int .i64 e.k) = evals (es.set k e) := by
  induction es with
  | nil => intro k hk; simp at hk
  | cons a es ih =>
    intro k hk e
    match k with
    | 0 => simp [evals, ecells]
    | k + 1 =>
      have h := ih k (by simpa using hk) e
      have l4 : (ecells a).length = 4 := rfl
      show ((((ecells a ++ evals es).set ((k + 1) * 4) _).set ((k + 1) * 4 + 1) _).set ((k + 1) * 4 + 2) _).set ((k + 1) * 4 + 3) _ = ecells a ++ evals (es.set k e)
      rw [← h, List.set_append_right _ _ (by rw [l4]; omega), List.set_append_right _ _ (by rw [l4]; omega), List.set_append_right _ _ (by rw [l4]; omega), List.set_append_right _ _ (by rw [l4]; omega), l4,
        show (k + 1) * 4 - 4 = k * 4 by omega, show (k + 1) * 4 + 1 - 4 = k * 4 + 1 by omega, show (k + 1) * 4 + 2 - 4 = k * 4 + 2 by omega, show (k + 1) * 4 + 3 - 4 = k * 4 + 3 by omega]

/-- What SetEdge makes of the edges, and its answer. -/
def setOf (nodes : Int) (es : List Ed) (i : Int) (e : Ed) : List Ed × Int :=
  if ¬ (0 ≤ i ∧ i < (es.length : Int)) then (es, 32) else if badOf nodes e ≠ 0 then (es, badOf nodes e) else (es.set i.toNat e, 0)

set_option maxRecDepth 100000 in
set_option maxHeartbeats 2000000 in
theorem set_calls (w : World) (F : Nat → Prop) (p : Nat) (nodes : Int) (es : List Ed) (h : NetF w F p nodes es) (i : Int) (e : Ed) (es' : List Ed) (c : Int) (hs : Hid (setOf nodes es i e = (es', c))) :
    Calls Try.prog 16 #[.pointer (some ⟨p, 0, none⟩), .int .i64 i, e.val] w fun v w' => v = .returned (.int .i64 c) ∧ NetF w' F p nodes es' ∧ Ch F w w' := by
  obtain ⟨ef, et, ec, ek⟩ := e
  have KG : Kept w (w.alloc (Obj.cells #[.int .i64 ef, .int .i64 et, .int .i64 ec, .int .i64 ek] 36)) := (Kept.refl w).alloc _
  have H1 := h.kept KG
  have C := hid_of (has_calls _ 0 p nodes es H1.at i)
  have hss := hs.out
  unfold setOf at hss
  by_cases hi : 0 ≤ i ∧ i < (es.length : Int)
  · rw [if_neg (by simp [hi])] at hss
    have hb : (decide (0 ≤ i) && decide (i < (es.length : Int))) = true := by simp [hi]
    rw [hb] at C
    have y0 : (w.alloc (Obj.cells #[.int .i64 ef, .int .i64 et, .int .i64 ec, .int .i64 ek] 36)).cell? ⟨w.heap.size, 0, none⟩ = some (.int .i64 ef) := by simp [go_sem]
    have y1 : (w.alloc (Obj.cells #[.int .i64 ef, .int .i64 et, .int .i64 ec, .int .i64 ek] 36)).cell? ⟨w.heap.size, 1, none⟩ = some (.int .i64 et) := by simp [go_sem]
    have y2 : (w.alloc (Obj.cells #[.int .i64 ef, .int .i64 et, .int .i64 ec, .int .i64 ek] 36)).cell? ⟨w.heap.size, 2, none⟩ = some (.int .i64 ec) := by simp [go_sem]
    have y3 : (w.alloc (Obj.cells #[.int .i64 ef, .int .i64 et, .int .i64 ec, .int .i64 ek] 36)).cell? ⟨w.heap.size, 3, none⟩ = some (.int .i64 ek) := by simp [go_sem]
    have WC := hid_of (fun w => wrong_calls nodes ⟨ef, et, ec, ek⟩ w)
    have m0 := H1.c0
    have HS := hid_of hss
    have H1H := hid_of H1
    have KGH := hid_of KG
    have nF : Hid (¬ F w.heap.size) := fun t => by have := h.lt _ t; omega
    obtain ⟨i', rfl⟩ : ∃ i' : Nat, i = (i' : Int) := ⟨i.toNat, by omega⟩
    have hi2 : i' < es.length := by omega
    have hi3 : (i' : Int) < (es.length : Int) := by omega
    clear h hs hss H1 KG hi hb
    go_enter Try.func16, Try.ntmps16
    go_wp2_with (go_at_call 31; refine C.out.mono ?_; rintro v w' ⟨rfl, rfl⟩)
    generalize hW1 : w.alloc (Obj.cells #[.int .i64 ef, .int .i64 et, .int .i64 ec, .int .i64 ek] 36) = W1 at y0 y1 y2 y3 m0 H1H KGH ⊢
    clear hW1 C
    refine Ord.region [(0, 1), (1, 0), (2, 0), (3, 0), (4, 0), (5, 1), (6, 2), (7, 0)] (fun w' => Kept W1 w') (by kernel_rfl) (by kernel_rfl) (by kernel_rfl) (by kernel_rfl) (fun _ _ d _ _ h => by cases d <;> exact h) ((Kept.refl _).drewN _) ?_
    repeat
      refine Ord.step rfl (fun Ko hK => ?_)
      simp only [Ord.body]
      go_simp
      first
        | (refine hK _ _ ?_; clear hK Ko)
        | (refine ⟨_, fun w' hS => (by have c0 := hS.cell y0; have c1 := hS.cell y1; have c2 := hS.cell y2; have c3 := hS.cell y3; simp only [c0, c1, c2, c3, Result.andThen]; rfl), hK _ _ ?_⟩; clear hK Ko)
        | (refine ⟨_, fun w' hS => (by have c0 := hS.cell m0; simp only [c0, Result.andThen]; rfl), hK _ _ ?_⟩; clear hK Ko)
        | (go_at_call 30; refine (WC.out _).mono ?_; rintro e wf ⟨rfl, K6⟩; refine ⟨((Kept.refl _).drewN _).trans K6, hK _ _ ?_⟩; clear hK Ko)
    refine Ord.done ?_
    have KN := ((Kept.refl W1).drewN _).trans K6
    have H2 := hid_of (H1H.out.kept KN)
    have v0 := KN.cell y0
    have v1 := KN.cell y1
    have v2 := KN.cell y2
    have v3 := KN.cell y3
    have KNH := hid_of (KGH.out.trans KN)
    clear K6 KN y0 y1 y2 y3 m0 H1H KGH WC
    by_cases hbd : badOf nodes ⟨ef, et, ec, ek⟩ = 0
    · have q : (badOf nodes ⟨ef, et, ec, ek⟩ != 0) = false := by simp [hbd]
      have hss := HS.out
      rw [if_neg (by simpa using hbd)] at hss
      simp only [Prod.mk.injEq, Int.toNat_natCast] at hss
      obtain ⟨rfl, rfl⟩ := hss
      obtain ⟨ao, cap, k1, o, n1, f⟩ := H2.out.c1
      obtain ⟨g, cp, eg, -, -⟩ := o.form (by omega)
      simp only [Value.slice.injEq, true_and] at eg
      obtain ⟨rfl, rfl⟩ := eg
      obtain ⟨x1, x2, x3, x4⟩ := evals_get es i' hi2
      have d1 := (o.cellAt (i' * 4) (by omega)).trans x1
      have d2 := (o.cellAt (i' * 4 + 1) (by omega)).trans x2
      have d3 := (o.cellAt (i' * 4 + 2) (by omega)).trans x3
      have d4 := (o.cellAt (i' * 4 + 3) (by omega)).trans x4
      have f1 := o.frozenAt (i' * 4)
      have f2 := o.frozenAt (i' * 4 + 1)
      have f3 := o.frozenAt (i' * 4 + 2)
      have f4 := o.frozenAt (i' * 4 + 3)
      have OH := hid_of o
      have NG := hid_of n1
      have FG := hid_of f
      have K1 := hid_of k1
      clear HS x1 x2 x3 x4 o n1 f
      go_wp2_with fail
      refine Ord.regionZ 8 [(0, 0), (1, 0), (2, 0), (3, 0), (4, 1), (5, 0), (6, 1), (7, 0), (8, 3)] (fun w' => Kept wf w') (by kernel_rfl) (by kernel_rfl) (by kernel_rfl) (by kernel_rfl) (fun _ _ d _ _ h => by cases d <;> exact h) ((Kept.refl _).drewN _) ?_
      repeat
        refine Ord.stepZ rfl (fun Ko hK => ?_)
        simp only [Ord.bodyZ, Ord.body]
        go_simp
        first
          | (refine hK _ _ ?_; clear hK Ko)
          | (refine ⟨(Kept.refl _).drewN _, hK _ _ ?_⟩; clear hK Ko)
          | (refine ⟨_, fun w' hS => (by have c0 := hS.cell k1; simp only [c0, Result.andThen]; rfl), hK _ _ ?_⟩; clear hK Ko)
          | (refine ⟨_, fun w' hS => (by have c0 := hS.cell v0; have c1 := hS.cell v1; have c2 := hS.cell v2; have c3 := hS.cell v3; simp only [c0, c1, c2, c3, Result.andThen]; rfl), hK _ _ ?_⟩; clear hK Ko)
      refine Ord.doneZ ?_
      have ON := (((((ownsK OH.out ((Kept.refl wf).drewN 1)).stored (i' * 4) (.int .i64 ef)).1.stored (i' * 4 + 1) (.int .i64 et)).1.stored (i' * 4 + 2) (.int .i64 ec)).1.stored (i' * 4 + 3) (.int .i64 ek)).1
      have E4 := evals_set4 es i' hi2 ⟨ef, et, ec, ek⟩
      simp only at E4
      rw [E4] at ON
      have G4 : Ch (fun x => x = g) wf (((((wf.drewN 1).setCell ⟨g, i' * 4, none⟩ (.int .i64 ef)).setCell ⟨g, i' * 4 + 1, none⟩ (.int .i64 et)).setCell ⟨g, i' * 4 + 2, none⟩ (.int .i64 ec)).setCell ⟨g, i' * 4 + 3, none⟩ (.int .i64 ek)) :=
        (((((Ch.refl (fun x => x = g) wf).drewN 1).setCell (F := fun x => x = g) (p := ⟨g, i' * 4, none⟩) rfl _).setCell (F := fun x => x = g) (p := ⟨g, i' * 4 + 1, none⟩) rfl _).setCell (F := fun x => x = g) (p := ⟨g, i' * 4 + 2, none⟩) rfl _).setCell (F := fun x => x = g) (p := ⟨g, i' * 4 + 3, none⟩) rfl _
      have npg : ¬ p = g := fun t => NG.out (by rw [t]; rfl)
      have lp := H2.out.lt p H2.out.own
      have ls : (es.set i' ⟨ef, et, ec, ek⟩).length = es.length := List.length_set
      have N4 : NetF (((((wf.drewN 1).setCell ⟨g, i' * 4, none⟩ (.int .i64 ef)).setCell ⟨g, i' * 4 + 1, none⟩ (.int .i64 et)).setCell ⟨g, i' * 4 + 2, none⟩ (.int .i64 ec)).setCell ⟨g, i' * 4 + 3, none⟩ (.int .i64 ek)) F p nodes (es.set i' ⟨ef, et, ec, ek⟩) := by
        refine ⟨G4.cell H2.out.c0 npg, ⟨some ⟨g, 0, none⟩, cap, ?_, ?_, ?_, ?_⟩, (G4.frozen lp npg).trans H2.out.z0, (G4.frozen lp npg).trans H2.out.z1, H2.out.own, fun k t => Nat.lt_of_lt_of_le (H2.out.lt k t) G4.size, fun q => (G4.frozen lp npg).trans (H2.out.zz q)⟩
        · rw [ls]; exact G4.cell K1.out npg
        · rw [ls]; exact ON
        · rw [ls]; exact NG.out
        · rw [ls]; exact FG.out
      have N4H := hid_of N4
      have C4H : Hid (Ch F w (((((wf.drewN 1).setCell ⟨g, i' * 4, none⟩ (.int .i64 ef)).setCell ⟨g, i' * 4 + 1, none⟩ (.int .i64 et)).setCell ⟨g, i' * 4 + 2, none⟩ (.int .i64 ec)).setCell ⟨g, i' * 4 + 3, none⟩ (.int .i64 ek))) := (Ch.of_kept KNH.out).trans (G4.mono (G := F) (fun k t => by rw [t]; exact FG.out g rfl))
      clear N4 G4 ON E4 OH NG FG K1 k1 d1 d2 d3 d4 f1 f2 f3 f4 v0 v1 v2 v3 H2 KNH
      go_wp2_with fail
      go_ret
      exact ⟨rfl, N4H.out, C4H.out⟩
    · have q : (badOf nodes ⟨ef, et, ec, ek⟩ != 0) = true := by simp [hbd]
      have hss := HS.out
      rw [if_pos hbd] at hss
      simp only [Prod.mk.injEq] at hss
      obtain ⟨rfl, rfl⟩ := hss
      clear HS
      go_wp2_with fail
      go_ret
      exact ⟨rfl, H2.out, Ch.of_kept KNH.out⟩
  · rw [if_pos (by simpa using hi)] at hss
    simp only [Prod.mk.injEq] at hss
    obtain ⟨rfl, rfl⟩ := hss
    have hb : (decide (0 ≤ i) && decide (i < (es.length : Int))) = false := by
      simp only [Bool.and_eq_false_iff, decide_eq_false_iff_not]; omega
    rw [hb] at C
    have H1H := hid_of H1
    clear h hs hi hb H1
    go_enter Try.func16, Try.ntmps16
    go_wp2_with (go_at_call 31; refine C.out.mono ?_; rintro v w' ⟨rfl, rfl⟩)
    go_ret
    exact ⟨rfl, H1H.out, Ch.of_kept KG⟩
end Go.Proofs.Ythefeijgpgcecaa
