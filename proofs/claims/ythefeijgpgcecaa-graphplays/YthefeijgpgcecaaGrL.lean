/- The document's SetEdge. -/
import Derived.Test.YthefeijgpgcecaaGrK
namespace Go.Proofs.Ythefeijgpgcecaa
open Go.RowKit

set_option maxRecDepth 100000 in
set_option maxHeartbeats 2000000 in
theorem setR_calls (nodes : Int) (ao : Option Addr) (n cap : Nat) (es : List Ed) (i : Int) (ed : Ed) (w : World) (h : ERow w ao n cap es) (hb : n ≤ 4096) (hnil : ao = none → n = 0 ∧ cap = 0) (es' : List Ed) (c : Int) (hs : Hid (setOf nodes es i ed = (es', c))) :
    Calls Try.prog 25 #[.agg #[.int .i64 nodes, .slice ao n cap], .int .i64 i, ed.val] w fun r w' => ∃ ao' cap', r = .returned (.tuple #[.agg #[.int .i64 nodes, .slice ao' n cap'], .int .i64 c]) ∧ es'.length = n ∧ ERow w' ao' n cap' es' ∧ (ao' = none → n = 0 ∧ cap' = 0) ∧ Fresh w.heap.size ao n ao' n ∧ Kept w w' := by
  have hl := h.len
  have HB := hid_of h
  have hss := hs.out
  have BC := hid_of (fun w => bad_calls nodes ed w)
  unfold setOf at hss
  rw [← hl] at hss
  have HL := hid_of hl
  clear h hs hl
  obtain ⟨ef, et, ec, ek⟩ := ed
  have KG : Kept w (((w.alloc (Obj.cells #[.int .i64 nodes, .slice ao n cap] 24)).alloc (Obj.cells #[.int .i64 ef, .int .i64 et, .int .i64 ec, .int .i64 ek] 36)).alloc (Obj.cells #[.int .i64 0, .slice none 0 0] 24)) := (((Kept.refl w).alloc _).alloc _).alloc _
  have g0 : (((w.alloc (Obj.cells #[.int .i64 nodes, .slice ao n cap] 24)).alloc (Obj.cells #[.int .i64 ef, .int .i64 et, .int .i64 ec, .int .i64 ek] 36)).alloc (Obj.cells #[.int .i64 0, .slice none 0 0] 24)).cell? ⟨w.heap.size, 0, none⟩ = some (.int .i64 nodes) := by simp [go_sem]
  have g1 : (((w.alloc (Obj.cells #[.int .i64 nodes, .slice ao n cap] 24)).alloc (Obj.cells #[.int .i64 ef, .int .i64 et, .int .i64 ec, .int .i64 ek] 36)).alloc (Obj.cells #[.int .i64 0, .slice none 0 0] 24)).cell? ⟨w.heap.size, 1, none⟩ = some (.slice ao n cap) := by simp [go_sem]
  have d0 : (((w.alloc (Obj.cells #[.int .i64 nodes, .slice ao n cap] 24)).alloc (Obj.cells #[.int .i64 ef, .int .i64 et, .int .i64 ec, .int .i64 ek] 36)).alloc (Obj.cells #[.int .i64 0, .slice none 0 0] 24)).cell? ⟨w.heap.size + 1, 0, none⟩ = some (.int .i64 ef) := by simp [go_sem]
  have d1 : (((w.alloc (Obj.cells #[.int .i64 nodes, .slice ao n cap] 24)).alloc (Obj.cells #[.int .i64 ef, .int .i64 et, .int .i64 ec, .int .i64 ek] 36)).alloc (Obj.cells #[.int .i64 0, .slice none 0 0] 24)).cell? ⟨w.heap.size + 1, 1, none⟩ = some (.int .i64 et) := by simp [go_sem]
  have d2 : (((w.alloc (Obj.cells #[.int .i64 nodes, .slice ao n cap] 24)).alloc (Obj.cells #[.int .i64 ef, .int .i64 et, .int .i64 ec, .int .i64 ek] 36)).alloc (Obj.cells #[.int .i64 0, .slice none 0 0] 24)).cell? ⟨w.heap.size + 1, 2, none⟩ = some (.int .i64 ec) := by simp [go_sem]
  have d3 : (((w.alloc (Obj.cells #[.int .i64 nodes, .slice ao n cap] 24)).alloc (Obj.cells #[.int .i64 ef, .int .i64 et, .int .i64 ec, .int .i64 ek] 36)).alloc (Obj.cells #[.int .i64 0, .slice none 0 0] 24)).cell? ⟨w.heap.size + 1, 3, none⟩ = some (.int .i64 ek) := by simp [go_sem]
  have f0 : (((w.alloc (Obj.cells #[.int .i64 nodes, .slice ao n cap] 24)).alloc (Obj.cells #[.int .i64 ef, .int .i64 et, .int .i64 ec, .int .i64 ek] 36)).alloc (Obj.cells #[.int .i64 0, .slice none 0 0] 24)).cell? ⟨w.heap.size + 2, 0, none⟩ = some (.int .i64 0) := by simp [go_sem]
  have f1 : (((w.alloc (Obj.cells #[.int .i64 nodes, .slice ao n cap] 24)).alloc (Obj.cells #[.int .i64 ef, .int .i64 et, .int .i64 ec, .int .i64 ek] 36)).alloc (Obj.cells #[.int .i64 0, .slice none 0 0] 24)).cell? ⟨w.heap.size + 2, 1, none⟩ = some (.slice none 0 0) := by simp [go_sem]
  have f2 : (((w.alloc (Obj.cells #[.int .i64 nodes, .slice ao n cap] 24)).alloc (Obj.cells #[.int .i64 ef, .int .i64 et, .int .i64 ec, .int .i64 ek] 36)).alloc (Obj.cells #[.int .i64 0, .slice none 0 0] 24)).frozen? ⟨w.heap.size + 2, 0, none⟩ = false := by simp [go_sem]
  have f3 : (((w.alloc (Obj.cells #[.int .i64 nodes, .slice ao n cap] 24)).alloc (Obj.cells #[.int .i64 ef, .int .i64 et, .int .i64 ec, .int .i64 ek] 36)).alloc (Obj.cells #[.int .i64 0, .slice none 0 0] 24)).frozen? ⟨w.heap.size + 2, 1, none⟩ = false := by simp [go_sem]
  by_cases hc : 0 ≤ i ∧ i < (n : Int)
  · rw [if_neg (by simpa using hc)] at hss
    have hcI : 0 ≤ i := hc.1
    have hcJ : i < (n : Int) := hc.2
    generalize badOf nodes ⟨ef, et, ec, ek⟩ = b at hss BC
    have HS := hid_of hss
    clear hss
    obtain ⟨i', rfl⟩ : ∃ i' : Nat, i = (i' : Int) := ⟨i.toNat, by omega⟩
    by_cases hb0 : b = 0
    · subst hb0
      have hss := HS.out
      rw [if_neg (by simp)] at hss
      simp only [Prod.mk.injEq, Int.toNat_natCast] at hss
      obtain ⟨rfl, rfl⟩ := hss
      have hi2 : i' < es.length := by have := HL.out; omega
      have LS : (es.set i' ⟨ef, et, ec, ek⟩).length = n := by rw [List.length_set]; exact HL.out.symm
      have HE := hid_of (HB.out.kept KG)
      have LSH := hid_of LS
      have E4H := hid_of (evals_set4 es i' hi2 ⟨ef, et, ec, ek⟩)
      clear HS LS hi2
      go_enter Try.func25, Try.ntmps25
      go_wp2_with fail
      generalize ((w.alloc (Obj.cells #[.int .i64 nodes, .slice ao n cap] 24)).alloc (Obj.cells #[.int .i64 ef, .int .i64 et, .int .i64 ec, .int .i64 ek] 36)).alloc (Obj.cells #[.int .i64 0, .slice none 0 0] 24) = W1 at KG g0 g1 d0 d1 d2 d3 f0 f1 f2 f3 HE ⊢
      refine (BC.out W1).mono ?_
      rintro v wb ⟨rfl, K1⟩
      have s0 := K1.cell g0
      have s1 := K1.cell g1
      have lw : w.heap.size + 2 < W1.heap.size := lt_cell f0
      have CC := hid_of (copyR_calls nodes ao n cap es wb (HE.out.kept K1) (by omega))
      clear BC
      go_wp2_with fail
      refine CC.out.mono ?_
      rintro r wf ⟨ao', cap', rfl, O, K2⟩
      have hn0 : 0 < n := by omega
      obtain ⟨g, cp, eg, -, -⟩ := O.form hn0
      simp only [Value.slice.injEq, true_and] at eg
      obtain ⟨rfl, rfl⟩ := eg
      have K6 := (K1.trans K2).alloc (Obj.cells #[.int .i64 nodes, .slice (some ⟨g, 0, none⟩) n cap'] 24)
      replace d0 := K6.cell d0
      replace d1 := K6.cell d1
      replace d2 := K6.cell d2
      replace d3 := K6.cell d3
      replace f2 := (Below.frozen (p := ⟨w.heap.size + 2, 0, none⟩) K6 (lt_cell f0)).trans f2
      replace f3 := (Below.frozen (p := ⟨w.heap.size + 2, 1, none⟩) K6 (lt_cell f1)).trans f3
      replace f0 := K6.cell f0
      replace f1 := K6.cell f1
      have r0 : (wf.alloc (Obj.cells #[.int .i64 nodes, .slice (some ⟨g, 0, none⟩) n cap'] 24)).cell? ⟨wf.heap.size, 0, none⟩ = some (.int .i64 nodes) := by simp [go_sem]
      have r1 : (wf.alloc (Obj.cells #[.int .i64 nodes, .slice (some ⟨g, 0, none⟩) n cap'] 24)).cell? ⟨wf.heap.size, 1, none⟩ = some (.slice (some ⟨g, 0, none⟩) n cap') := by simp [go_sem]
      have O8 := O.alloc (Obj.cells #[.int .i64 nodes, .slice (some ⟨g, 0, none⟩) n cap'] 24)
      have lg := O.lt g rfl
      have ngp : ¬ g = wf.heap.size := by omega
      have lwf : w.heap.size + 2 < wb.heap.size := by have := K1.size; omega
      have lwb := K2.size
      have KW := hid_of (KG.trans K6)
      clear O K2 K6 CC KG K1 s0 s1 HE g0 g1
      go_upto_region 7 with fail
      generalize hW8 : wf.alloc (Obj.cells #[.int .i64 nodes, .slice (some ⟨g, 0, none⟩) n cap'] 24) = W8 at *
      clear hW8
      generalize hp8 : wf.heap.size = p8 at *
      clear hp8
      obtain ⟨x1, x2, x3, x4⟩ := evals_get es i' (by have := HL.out; omega)
      have h1 := (O8.cellAt (i' * 4) (by omega)).trans x1
      have h2 := (O8.cellAt (i' * 4 + 1) (by omega)).trans x2
      have h3 := (O8.cellAt (i' * 4 + 2) (by omega)).trans x3
      have h4 := (O8.cellAt (i' * 4 + 3) (by omega)).trans x4
      have k1 := O8.frozenAt (i' * 4)
      have k2 := O8.frozenAt (i' * 4 + 1)
      have k3 := O8.frozenAt (i' * 4 + 2)
      have k4 := O8.frozenAt (i' * 4 + 3)
      have ON := (((((O8.stored (i' * 4) (.int .i64 ef)).1.stored (i' * 4 + 1) (.int .i64 et)).1.stored (i' * 4 + 2) (.int .i64 ec)).1.stored (i' * 4 + 3) (.int .i64 ek)).1)
      have E4 := E4H.out
      rw [E4] at ON
      have ONH := hid_of ON
      have G4 : Ch (fun x => x = g) W8 ((((W8.setCell ⟨g, i' * 4, none⟩ (.int .i64 ef)).setCell ⟨g, i' * 4 + 1, none⟩ (.int .i64 et)).setCell ⟨g, i' * 4 + 2, none⟩ (.int .i64 ec)).setCell ⟨g, i' * 4 + 3, none⟩ (.int .i64 ek)) :=
        (((((Ch.refl (fun x => x = g) W8)).setCell (F := fun x => x = g) (p := ⟨g, i' * 4, none⟩) rfl _).setCell (F := fun x => x = g) (p := ⟨g, i' * 4 + 1, none⟩) rfl _).setCell (F := fun x => x = g) (p := ⟨g, i' * 4 + 2, none⟩) rfl _).setCell (F := fun x => x = g) (p := ⟨g, i' * 4 + 3, none⟩) rfl _
      have ng2 : ¬ w.heap.size + 2 = g := by omega
      have ng8 : ¬ p8 = g := fun t => ngp t.symm
      have l2 : w.heap.size + 2 < W8.heap.size := lt_cell f0
      have t0 := hid_of (G4.cell f0 ng2)
      have t1 := hid_of (G4.cell f1 ng2)
      have t2 := hid_of ((G4.frozen (o := 0) l2 ng2).trans f2)
      have t3 := hid_of ((G4.frozen (o := 1) l2 ng2).trans f3)
      have e0 := hid_of (G4.cell r0 ng8)
      have e1 := hid_of (G4.cell r1 ng8)
      have KZ := hid_of (KW.out.ch G4 (fun k hk => by subst hk; omega))
      clear ON O8 E4 E4H x1 x2 x3 x4 f0 f1 f2 f3 r0 KW G4
      go_upto_region 8 with fail
      generalize hW9 : (((W8.setCell ⟨g, i' * 4, none⟩ (.int .i64 ef)).setCell ⟨g, i' * 4 + 1, none⟩ (.int .i64 et)).setCell ⟨g, i' * 4 + 2, none⟩ (.int .i64 ec)).setCell ⟨g, i' * 4 + 3, none⟩ (.int .i64 ek) = W9 at *
      clear hW9
      obtain ⟨u1, u2, u3, u4⟩ := box2w t0.out t1.out (.int .i64 nodes) (.slice (some ⟨g, 0, none⟩) n cap')
      have y0 := t0.out
      have y1 := t1.out
      have y2 := t2.out
      have y3 := t3.out
      have z0 := e0.out
      have z1 := e1.out
      have OX := ownsRow_setCell_below (ownsRow_setCell_below ONH.out (a := ⟨w.heap.size + 2, 0, none⟩) (by simp only; omega) (.int .i64 nodes)) (a := ⟨w.heap.size + 2, 1, none⟩) (by simp only; omega) (.slice (some ⟨g, 0, none⟩) n cap')
      have KX := hid_of ((KZ.out.setCell (p := ⟨w.heap.size + 2, 0, none⟩) (by simp) (.int .i64 nodes)).setCell (p := ⟨w.heap.size + 2, 1, none⟩) (by simp) (.slice (some ⟨g, 0, none⟩) n cap'))
      have E8 := hid_of (ERow.of_owns OX)
      have FR8 : Fresh w.heap.size ao n (some ⟨g, 0, none⟩) n := fresh_of_owns OX (by omega)
      clear OX ONH KZ h1 h2 h3 h4 k1 k2 k3 k4 d0 d1 d2 d3 r1
      go_wp2_with fail
      exact bodyPost_ret (v := .tuple #[.agg #[.int .i64 nodes, .slice (some ⟨g, 0, none⟩) n cap'], .int .i64 0]) (by simp [results, Try.results25, go_sem, u3, u4]) rfl ⟨_, cap', rfl, LSH.out, E8.out, (fun t => by cases t), FR8, KX.out⟩
    · have hss := HS.out
      rw [if_pos hb0] at hss
      simp only [Prod.mk.injEq] at hss
      obtain ⟨rfl, rfl⟩ := hss
      clear HS
      go_enter Try.func25, Try.ntmps25
      go_wp2_with fail
      generalize ((w.alloc (Obj.cells #[.int .i64 nodes, .slice ao n cap] 24)).alloc (Obj.cells #[.int .i64 ef, .int .i64 et, .int .i64 ec, .int .i64 ek] 36)).alloc (Obj.cells #[.int .i64 0, .slice none 0 0] 24) = W1 at KG g0 g1 d0 d1 d2 d3 f0 f1 f2 f3 ⊢
      refine (BC.out W1).mono ?_
      rintro v wf ⟨rfl, K6⟩
      have p0 := K6.cell g0
      have p1 := K6.cell g1
      have q0 := K6.cell f0
      have q1 := K6.cell f1
      have q2 := (Below.frozen (p := ⟨w.heap.size + 2, 0, none⟩) K6 (lt_cell f0)).trans f2
      have q3 := (Below.frozen (p := ⟨w.heap.size + 2, 1, none⟩) K6 (lt_cell f1)).trans f3
      have KH := hid_of (KG.trans K6)
      obtain ⟨u1, u2, u3, u4⟩ := box2w q0 q1 (.int .i64 nodes) (.slice ao n cap)
      clear KG K6 g0 g1 d0 d1 d2 d3 f0 f1 f2 f3
      have KZ := (KH.out.setCell (p := ⟨w.heap.size + 2, 0, none⟩) (by simp) (.int .i64 nodes)).setCell (p := ⟨w.heap.size + 2, 1, none⟩) (by simp) (.slice ao n cap)
      have KZH := hid_of KZ
      clear KZ
      go_wp2_with fail
      exact bodyPost_ret (v := .tuple #[.agg #[.int .i64 nodes, .slice ao n cap], .int .i64 b]) (by simp [results, Try.results25, go_sem, u3, u4]) rfl ⟨ao, cap, rfl, HL.out.symm, HB.out.kept KZH.out, hnil, .inl ⟨rfl, rfl⟩, KZH.out⟩
  · rw [if_pos (by simpa using hc)] at hss
    simp only [Prod.mk.injEq] at hss
    obtain ⟨rfl, rfl⟩ := hss
    have hcI : i < 0 ∨ (n : Int) ≤ i := by omega
    clear BC
    have KZ : Kept w (((w.alloc (Obj.cells #[.int .i64 nodes, .slice ao n cap] 24)).alloc (Obj.cells #[.int .i64 ef, .int .i64 et, .int .i64 ec, .int .i64 ek] 36)).alloc (Obj.cells #[.int .i64 nodes, .slice ao n cap] 24)) := (((Kept.refl w).alloc _).alloc _).alloc _
    rcases hcI with hcI | hcI
    · go_enter Try.func25, Try.ntmps25
      go_wp2_with fail
      exact bodyPost_ret (v := .tuple #[.agg #[.int .i64 nodes, .slice ao n cap], .int .i64 32]) (by simp [results, Try.results25, go_sem]) rfl ⟨ao, cap, rfl, HL.out.symm, HB.out.kept KZ, hnil, .inl ⟨rfl, rfl⟩, KZ⟩
    · have hi0 : ¬ i < 0 := by omega
      go_enter Try.func25, Try.ntmps25
      go_wp2_with fail
      exact bodyPost_ret (v := .tuple #[.agg #[.int .i64 nodes, .slice ao n cap], .int .i64 32]) (by simp [results, Try.results25, go_sem]) rfl ⟨ao, cap, rfl, HL.out.symm, HB.out.kept KZ, hnil, .inl ⟨rfl, rfl⟩, KZ⟩
end Go.Proofs.Ythefeijgpgcecaa
