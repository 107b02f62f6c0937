/- The document's AddEdge. -/
import Derived.Test.YthefeijgpgcecaaGrJ
import Derived.Deep.DeepCutAuto
import Derived.Deep.CutBlock
namespace Go.Proofs.Ythefeijgpgcecaa
open Go.RowKit

set_option maxRecDepth 100000 in
set_option maxHeartbeats 2000000 in
theorem addEdgeR_calls (nodes : Int) (ao : Option Addr) (n cap : Nat) (es : List Ed) (ed : Ed) (w : World) (h : ERow w ao n cap es) (hb : n ≤ 4096) (hnil : ao = none → n = 0 ∧ cap = 0) (es' : List Ed) (x c : Int) (hs : Hid (addOf nodes es ed = (es', x, c))) :
    Calls Try.prog 24 #[.agg #[.int .i64 nodes, .slice ao n cap], ed.val] w fun r w' => ∃ ao' cap', r = .returned (.tuple #[.agg #[.int .i64 nodes, .slice ao' es'.length cap'], .int .i64 x, .int .i64 c]) ∧ ERow w' ao' es'.length cap' es' ∧ (ao' = none → es'.length = 0 ∧ cap' = 0) ∧ Fresh w.heap.size ao n ao' es'.length ∧ Kept w w' := by
  have hl := h.len
  have HB := hid_of h
  have hss := hs.out
  have BC := hid_of (fun w => bad_calls nodes ed w)
  unfold addOf at hss
  rw [← hl] at hss
  have HL := hid_of hl
  clear h hs hl
  obtain ⟨ef, et, ec, ek⟩ := ed
  by_cases hc : 4096 ≤ n
  · rw [if_pos hc] at hss
    simp only [Prod.mk.injEq] at hss
    obtain ⟨rfl, rfl, rfl⟩ := hss
    rw [← HL.out]
    have hcI : (4096 : Int) ≤ (n : Int) := by omega
    go_enter Try.func24, Try.ntmps24
    go_wp2_with fail
    have KZ : Kept w (((w.alloc (Obj.cells #[.int .i64 nodes, .slice ao n cap] 24)).alloc (Obj.cells #[.int .i64 ef, .int .i64 et, .int .i64 ec, .int .i64 ek] 36)).alloc (Obj.cells #[.int .i64 nodes, .slice ao n cap] 24)) := (((Kept.refl w).alloc _).alloc _).alloc _
    exact bodyPost_ret (v := .tuple #[.agg #[.int .i64 nodes, .slice ao n cap], .int .i64 0, .int .i64 3]) (by simp [results, Try.results24, go_sem]) rfl ⟨ao, cap, rfl, HB.out.kept KZ, hnil, .inl ⟨rfl, rfl⟩, KZ⟩
  · rw [if_neg hc] at hss
    have hcI : (n : Int) < 4096 := by omega
    have KG : Kept w (((w.alloc (Obj.cells #[.int .i64 nodes, .slice ao n cap] 24)).alloc (Obj.cells #[.int .i64 ef, .int .i64 et, .int .i64 ec, .int .i64 ek] 36)).alloc (Obj.cells #[.int .i64 0, .slice none 0 0] 24)) := (((Kept.refl w).alloc _).alloc _).alloc _
    have g0 : (((w.alloc (Obj.cells #[.int .i64 nodes, .slice ao n cap] 24)).alloc (Obj.cells #[.int .i64 ef, .int .i64 et, .int .i64 ec, .int .i64 ek] 36)).alloc (Obj.cells #[.int .i64 0, .slice none 0 0] 24)).cell? ⟨w.heap.size, 0, none⟩ = some (.int .i64 nodes) := by simp [go_sem]
    have g1 : (((w.alloc (Obj.cells #[.int .i64 nodes, .slice ao n cap] 24)).alloc (Obj.cells #[.int .i64 ef, .int .i64 et, .int .i64 ec, .int .i64 ek] 36)).alloc (Obj.cells #[.int .i64 0, .slice none 0 0] 24)).cell? ⟨w.heap.size, 1, none⟩ = some (.slice ao n cap) := by simp [go_sem]
    have d0 : (((w.alloc (Obj.cells #[.int .i64 nodes, .slice ao n cap] 24)).alloc (Obj.cells #[.int .i64 ef, .int .i64 et, .int .i64 ec, .int .i64 ek] 36)).alloc (Obj.cells #[.int .i64 0, .slice none 0 0] 24)).cell? ⟨w.heap.size + 1, 0, none⟩ = some (.int .i64 ef) := by simp [go_sem]
    have d1 : (((w.alloc (Obj.cells #[.int .i64 nodes, .slice ao n cap] 24)).alloc (Obj.cells #[.int .i64 ef, .int .i64 et, .int .i64 ec, .int .i64 ek] 36)).alloc (Obj.cells #[.int .i64 0, .slice none 0 0] 24)).cell? ⟨w.heap.size + 1, 1, none⟩ = some (.int .i64 et) := by simp [go_sem]
    have d2 : (((w.alloc (Obj.cells #[.int .i64 nodes, .slice ao n cap] 24)).alloc (Obj.cells #[.int .i64 ef, .int .i64 et, .int .i64 ec, .int .i64 ek] 36)).alloc (Obj.cells #[.int .i64 0, .slice none 0 0] 24)).cell? ⟨w.heap.size + 1, 2, none⟩ = some (.int .i64 ec) := by simp [go_sem]
    have d3 : (((w.alloc (Obj.cells #[.int .i64 nodes, .slice ao n cap] 24)).alloc (Obj.cells #[.int .i64 ef, .int .i64 et, .int .i64 ec, .int .i64 ek] 36)).alloc (Obj.cells #[.int .i64 0, .slice none 0 0] 24)).cell? ⟨w.heap.size + 1, 3, none⟩ = some (.int .i64 ek) := by simp [go_sem]
    have f0 : (((w.alloc (Obj.cells #[.int .i64 nodes, .slice ao n cap] 24)).alloc (Obj.cells #[.int .i64 ef, .int .i64 et, .int .i64 ec, .int .i64 ek] 36)).alloc (Obj.cells #[.int .i64 0, .slice none 0 0] 24)).cell? ⟨w.heap.size + 2, 0, none⟩ = some (.int .i64 0) := by simp [go_sem]
    have f1 : (((w.alloc (Obj.cells #[.int .i64 nodes, .slice ao n cap] 24)).alloc (Obj.cells #[.int .i64 ef, .int .i64 et, .int .i64 ec, .int .i64 ek] 36)).alloc (Obj.cells #[.int .i64 0, .slice none 0 0] 24)).cell? ⟨w.heap.size + 2, 1, none⟩ = some (.slice none 0 0) := by simp [go_sem]
    have f2 : (((w.alloc (Obj.cells #[.int .i64 nodes, .slice ao n cap] 24)).alloc (Obj.cells #[.int .i64 ef, .int .i64 et, .int .i64 ec, .int .i64 ek] 36)).alloc (Obj.cells #[.int .i64 0, .slice none 0 0] 24)).frozen? ⟨w.heap.size + 2, 0, none⟩ = false := by simp [go_sem]
    have f3 : (((w.alloc (Obj.cells #[.int .i64 nodes, .slice ao n cap] 24)).alloc (Obj.cells #[.int .i64 ef, .int .i64 et, .int .i64 ec, .int .i64 ek] 36)).alloc (Obj.cells #[.int .i64 0, .slice none 0 0] 24)).frozen? ⟨w.heap.size + 2, 1, none⟩ = false := by simp [go_sem]
    generalize badOf nodes ⟨ef, et, ec, ek⟩ = b at hss BC
    have HS := hid_of hss
    clear hss
    by_cases hb0 : b = 0
    · subst hb0
      have hss := HS.out
      rw [if_neg (by simp)] at hss
      simp only [Prod.mk.injEq] at hss
      obtain ⟨rfl, rfl, rfl⟩ := hss
      have LN : (es ++ [(⟨ef, et, ec, ek⟩ : Ed)]).length = n + 1 := by rw [List.length_append, ← HL.out]; rfl
      rw [LN]
      have HE := hid_of (HB.out.kept KG)
      clear HS LN
      obtain ⟨i0, hi, hz0, hz1, hz2⟩ := infoE
      go_enter Try.func24, Try.ntmps24
      go_wp2_with fail
      generalize ((w.alloc (Obj.cells #[.int .i64 nodes, .slice ao n cap] 24)).alloc (Obj.cells #[.int .i64 ef, .int .i64 et, .int .i64 ec, .int .i64 ek] 36)).alloc (Obj.cells #[.int .i64 0, .slice none 0 0] 24) = W1 at KG g0 g1 d0 d1 d2 d3 f0 f1 f2 f3 HE ⊢
      refine (BC.out W1).mono ?_
      rintro v wb ⟨rfl, K1⟩
      have s0 := K1.cell g0
      have s1 := K1.cell g1
      have lw : w.heap.size + 2 < W1.heap.size := lt_cell f0
      have CC := hid_of (copyR_calls nodes ao n cap es wb (HE.out.kept K1) (by omega))
      clear BC
      go_wp2_with fail
      refine CC.out.mono ?_
      rintro r wf ⟨ao', cap', rfl, O, K2⟩
      have K6 := (K1.trans K2).alloc (Obj.cells #[.int .i64 nodes, .slice ao' n cap'] 24)
      replace d0 := K6.cell d0
      replace d1 := K6.cell d1
      replace d2 := K6.cell d2
      replace d3 := K6.cell d3
      replace g0 := K6.cell g0
      replace g1 := K6.cell g1
      replace f2 := (Below.frozen (p := ⟨w.heap.size + 2, 0, none⟩) K6 (lt_cell f0)).trans f2
      replace f3 := (Below.frozen (p := ⟨w.heap.size + 2, 1, none⟩) K6 (lt_cell f1)).trans f3
      replace f0 := K6.cell f0
      replace f1 := K6.cell f1
      have r0 : (wf.alloc (Obj.cells #[.int .i64 nodes, .slice ao' n cap'] 24)).cell? ⟨wf.heap.size, 0, none⟩ = some (.int .i64 nodes) := by simp [go_sem]
      have r1 : (wf.alloc (Obj.cells #[.int .i64 nodes, .slice ao' n cap'] 24)).cell? ⟨wf.heap.size, 1, none⟩ = some (.slice ao' n cap') := by simp [go_sem]
      have r2 : (wf.alloc (Obj.cells #[.int .i64 nodes, .slice ao' n cap'] 24)).frozen? ⟨wf.heap.size, 0, none⟩ = false := by simp [go_sem]
      have r3 : (wf.alloc (Obj.cells #[.int .i64 nodes, .slice ao' n cap'] 24)).frozen? ⟨wf.heap.size, 1, none⟩ = false := by simp [go_sem]
      have hz : (wf.alloc (Obj.cells #[.int .i64 nodes, .slice ao' n cap'] 24)).heap.size = wf.heap.size + 1 := by simp
      have RZ : Hid (∀ q, (wf.alloc (Obj.cells #[.int .i64 nodes, .slice ao' n cap'] 24)).frozen? ⟨wf.heap.size, q, none⟩ = false) := fun q => by simp [go_sem]
      have O8 := O.alloc (Obj.cells #[.int .i64 nodes, .slice ao' n cap'] 24)
      have nr : some wf.heap.size ≠ (Value.slice ao' n cap').ownBlock := fun t => by have := (O.lt _ t.symm).2; omega
      have lwb := K2.size
      have lwf : w.heap.size + 2 < wf.heap.size := by have := K1.size; omega
      have KW := hid_of (KG.trans K6)
      have lwb2 := K1.size
      clear O K2 K6 CC KG K1 s0 s1 HE
      go_upto_region 7 with fail
      generalize hW8 : wf.alloc (Obj.cells #[.int .i64 nodes, .slice ao' n cap'] 24) = W8 at *
      clear hW8
      generalize hp8 : wf.heap.size = p8 at *
      clear hp8
      have NW := hid_of (cell_new4 W8 36 ⟨ef, et, ec, ek⟩)
      have HM := hid_of (O8.alloc (Obj.cells #[.int .i64 ef, .int .i64 et, .int .i64 ec, .int .i64 ek] 36))
      have O8H := hid_of O8
      have HL2 := hid_of HL.out
      have hz8 := hid_of hz
      clear O8 hz
      go_wp2_with (at_builtin; refine wpList_append_lies _ (by rfl) (.tmp 25) (.tmp 27) 22 (by rfl) wb.heap.size 36 i0 _ 4 32 Try.underlying22 hi hz0 hz1 hz2 rfl (by decide) _ _ _ (by rfl) HM.out ⟨W8.heap.size, 0, none⟩ 1 1 (ecells ⟨ef, et, ec, ek⟩) (by rfl) rfl NW.out (ecells_one _) (by decide) (by unfold maxLen; omega) (by omega) (by have := hz8.out; simp; omega) (W8.heap.size + 1) (by simp) ?_; intro g cap3 w1 own grow hat hlt; obtain ⟨ao5, cap5, e5, q1, q2, q3, q4⟩ := net_grow (wr := W8) (o := Obj.cells #[.int .i64 ef, .int .i64 et, .int .i64 ec, .int .i64 ek] 36) (x := ⟨ef, et, ec, ek⟩) HL2.out r0 r1 nr r2 r3 lwb RZ.out own grow (by rcases hat with t | t; exact .inl t.symm; exact .inr (by rw [t]; rfl)))
      have ngp : (Value.slice (some ⟨g, 0, none⟩) (n + 1) cap3).ownBlock ≠ some p8 := fun e => by
        simp only [Value.ownBlock, Option.some.injEq] at e
        rcases hat with t | t
        · exact nr (by rw [t, e])
        · have := hz8.out; omega
      have O9 := ownsRow_setCell_other own ngp (a := ⟨p8, 1, none⟩) (.slice (some ⟨g, 0, none⟩) (n + 1) cap3)
      rw [← evals_snoc] at O9
      have CG : Ch (fun k => wb.heap.size ≤ k) W8 (w1.setCell ⟨p8, 1, none⟩ (.slice (some ⟨g, 0, none⟩) (n + 1) cap3)) :=
        (((Ch.of_kept ((Kept.refl W8).alloc _)).trans (Ch.of_grown grow (fun k e => (O8H.out.lt k e).1))).setCell (F := fun k => wb.heap.size ≤ k) (p := ⟨p8, 1, none⟩) lwb _)
      have n0 : ¬ wb.heap.size ≤ w.heap.size := by omega
      have n1 : ¬ wb.heap.size ≤ w.heap.size + 1 := by omega
      have n2 : ¬ wb.heap.size ≤ w.heap.size + 2 := by omega
      have l8 : w.heap.size + 2 < W8.heap.size := by have := hz8.out; omega
      have p1 := CG.cell g1 n0
      have t0 := CG.cell f0 n2
      have t1 := CG.cell f1 n2
      have t2 := (CG.frozen (o := 0) l8 n2).trans f2
      have t3 := (CG.frozen (o := 1) l8 n2).trans f3
      have KZ := hid_of (KW.out.ch CG (fun k hk => by omega))
      have e0 := q3.c0
      have e1 : (w1.setCell ⟨p8, 1, none⟩ (.slice (some ⟨g, 0, none⟩) (n + 1) cap3)).cell? ⟨p8, 1, none⟩ = some (.slice (some ⟨g, 0, none⟩) (n + 1) cap3) := World.cell?_setCell_same _ _ _ q1
      have O9H := hid_of O9
      have ne : ¬ p8 = w.heap.size + 2 := by omega
      have nw : ¬ w.heap.size = w.heap.size + 2 := by omega
      have lbw : w.heap.size + 2 < wb.heap.size := by omega
      clear O9 CG own grow hat hlt q1 q2 q3 q4 g0 g1 f0 f1 f2 f3 r0 r1 r2 r3 d0 d1 d2 d3 O8H KW nr HM NW ngp hz8 HL2
      generalize hW9 : w1.setCell ⟨p8, 1, none⟩ (.slice (some ⟨g, 0, none⟩) (n + 1) cap3) = W9 at *
      clear hW9
      refine Ord.region [(0, 1), (1, 0), (2, 1), (3, 0), (4, 2), (5, 0), (6, 0)] (fun w' => Ch (fun x => x = w.heap.size + 2) W9 w') (by kernel_rfl) (by kernel_rfl) (by kernel_rfl) (by kernel_rfl) (fun _ _ d _ _ h => by cases d <;> exact h) ((Ch.refl _ W9).drewN _) ?_
      repeat
        refine Ord.step rfl (fun Ko hK => ?_)
        simp only [Ord.body]
        go_simp
        first
          | (refine hK _ _ ?_; clear hK Ko)
          | (refine ⟨_, fun w' hS => (by have c0 := hS.cell p1 nw; simp only [c0, Result.andThen]; rfl), hK _ _ ?_⟩; clear hK Ko)
          | (refine ⟨_, fun w' hS => (by have c0 := hS.cell e0 ne; have c1 := hS.cell e1 ne; simp only [c0, c1, Result.andThen]; rfl), hK _ _ ?_⟩; clear hK Ko)
          | (refine ⟨(((Ch.refl (fun x => x = w.heap.size + 2) W9).drewN _).setCell (F := fun x => x = w.heap.size + 2) (p := ⟨w.heap.size + 2, 0, none⟩) rfl _).setCell (F := fun x => x = w.heap.size + 2) (p := ⟨w.heap.size + 2, 1, none⟩) rfl _, hK _ _ ?_⟩; clear hK Ko)
      refine Ord.done ?_
      obtain ⟨u1, u2, u3, u4⟩ := box2w (w := W9.drewN 1) t0 t1 (.int .i64 nodes) (.slice (some ⟨g, 0, none⟩) (n + 1) cap3)
      have OX := ownsRow_setCell_below (ownsRow_setCell_below (ownsK O9H.out ((Kept.refl W9).drewN 1)) (a := ⟨w.heap.size + 2, 0, none⟩) (by simp only; omega) (.int .i64 nodes)) (a := ⟨w.heap.size + 2, 1, none⟩) (by simp only; omega) (.slice (some ⟨g, 0, none⟩) (n + 1) cap3)
      have KX := ((KZ.out.drewN 1).setCell (p := ⟨w.heap.size + 2, 0, none⟩) (by simp) (.int .i64 nodes)).setCell (p := ⟨w.heap.size + 2, 1, none⟩) (by simp) (.slice (some ⟨g, 0, none⟩) (n + 1) cap3)
      have E8 := hid_of (ERow.of_owns OX)
      have KXH := hid_of KX
      have FR8 : Fresh w.heap.size ao n (some ⟨g, 0, none⟩) (n + 1) := fresh_of_owns OX (by omega)
      clear OX KX O9H KZ
      go_wp2
      exact bodyPost_ret (v := .tuple #[.agg #[.int .i64 nodes, .slice (some ⟨g, 0, none⟩) (n + 1) cap3], .int .i64 n, .int .i64 0]) (by simp [results, Try.results24, go_sem, u3, u4]) rfl ⟨_, cap3, rfl, E8.out, (fun t => by cases t), FR8, KXH.out⟩
    · have hss := HS.out
      rw [if_pos hb0] at hss
      simp only [Prod.mk.injEq] at hss
      obtain ⟨rfl, rfl, rfl⟩ := hss
      rw [← HL.out]
      clear HS
      go_enter Try.func24, Try.ntmps24
      go_wp2_with fail
      generalize ((w.alloc (Obj.cells #[.int .i64 nodes, .slice ao n cap] 24)).alloc (Obj.cells #[.int .i64 ef, .int .i64 et, .int .i64 ec, .int .i64 ek] 36)).alloc (Obj.cells #[.int .i64 0, .slice none 0 0] 24) = W1 at KG g0 g1 d0 d1 d2 d3 f0 f1 f2 f3 ⊢
      refine (BC.out W1).mono ?_
      rintro v wf ⟨rfl, K6⟩
      have p0 := K6.cell g0
      have p1 := K6.cell g1
      have q0 := K6.cell f0
      have q1 := K6.cell f1
      have q2 := (Below.frozen (p := ⟨w.heap.size + 2, 0, none⟩) K6 (lt_cell f0)).trans f2
      have q3 := (Below.frozen (p := ⟨w.heap.size + 2, 1, none⟩) K6 (lt_cell f1)).trans f3
      have KH := hid_of (KG.trans K6)
      obtain ⟨u1, u2, u3, u4⟩ := box2w q0 q1 (.int .i64 nodes) (.slice ao n cap)
      clear KG K6 g0 g1 d0 d1 d2 d3 f0 f1 f2 f3
      have KZ := (KH.out.setCell (p := ⟨w.heap.size + 2, 0, none⟩) (by simp) (.int .i64 nodes)).setCell (p := ⟨w.heap.size + 2, 1, none⟩) (by simp) (.slice ao n cap)
      have KZH := hid_of KZ
      clear KZ
      go_wp2_with fail
      exact bodyPost_ret (v := .tuple #[.agg #[.int .i64 nodes, .slice ao n cap], .int .i64 0, .int .i64 b]) (by simp [results, Try.results24, go_sem, u3, u4]) rfl ⟨ao, cap, rfl, HB.out.kept KZH.out, hnil, .inl ⟨rfl, rfl⟩, KZH.out⟩
end Go.Proofs.Ythefeijgpgcecaa
