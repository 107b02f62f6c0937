/- The law's questions: asks. -/
import Derived.Test.YthefeijgpgcecaaGrO
namespace Go.Proofs.Ythefeijgpgcecaa
open Go.RowKit

/-- A call as a value. -/
abbrev GOp.val (o : GOp) : Value := .agg #[.int .i64 o.k, .int .i64 o.a, .int .i64 o.e.f, .int .i64 o.e.t, .int .i64 o.e.c, .int .i64 o.e.k]

theorem edge_eql (f t c k : Int) (w : World) : (binOp .eql 36 (.agg #[.int .i64 f, .int .i64 t, .int .i64 c, .int .i64 k]) (.agg #[.int .i64 f, .int .i64 t, .int .i64 c, .int .i64 k])).run Try.prog w = .ok (.bool true) w := by
  have hp : Try.prog.stoodInHeld 36 = false := by kernel_rfl
  have hu : Try.prog.underlying 36 = some (.struct (Try.prog.fieldsOf 36)) := by simp [Program.fieldsOf, Try.underlying36]
  rw [run_eql_struct, run_equalIn_agg w 9999 36 _ _ hu hp]
  simp [Program.fieldsOf, Try.underlying36, Op.eqFields, go_sem, Try.underlying3, Try.underlying2]

set_option maxRecDepth 100000 in
set_option maxHeartbeats 1000000 in
theorem edgeBad_calls (w : World) (B p : Nat) (nodes : Int) (es : List Ed) (h : NetAt w B p nodes es) (i : Int) (hi : i < 0 ∨ (es.length : Int) ≤ i) :
    Calls Try.prog 20 #[.pointer (some ⟨p, 0, none⟩), .int .i64 i] w fun v w' => v = .returned (.tuple #[.agg #[.int .i64 0, .int .i64 0, .int .i64 0, .int .i64 0], .int .i64 32]) ∧ Kept w w' := by
  have H1 := h.alloc (Obj.cells #[.int .i64 0, .int .i64 0, .int .i64 0, .int .i64 0] 36)
  have C := hid_of (has_calls _ B p nodes es H1 i)
  have hb : (decide (0 ≤ i) && decide (i < (es.length : Int))) = false := by
    simp only [Bool.and_eq_false_iff, decide_eq_false_iff_not]; omega
  rw [hb] at C
  clear hi hb h
  go_enter Try.func20, Try.ntmps20
  go_wp2_with (go_at_call 31; refine C.out.mono ?_; rintro v w' ⟨rfl, rfl⟩)
  refine bodyPost_ret (v := .tuple #[.agg #[.int .i64 0, .int .i64 0, .int .i64 0, .int .i64 0], .int .i64 32]) (by simp [results, Try.results20, go_sem]) rfl ⟨rfl, (Kept.refl w).alloc _⟩

set_option maxRecDepth 100000 in
set_option linter.unusedSimpArgs false in
set_option maxHeartbeats 4000000 in
theorem asks_calls (w : World) (B p : Nat) (nodes : Int) (es : List Ed) (h : NetAt w B p nodes es) (ao : Option Addr) (n cap : Nat) (hE : ERow w ao n cap es) (hn : n ≤ 4096) (o : GOp) :
    Calls Try.prog 28 #[.pointer (some ⟨p, 0, none⟩), .agg #[.int .i64 nodes, .slice ao n cap], o.val] w fun v w' => v = .returned (.bool true) ∧ Kept w w' := by
  obtain ⟨x0, x1, y0, y1, y2, y3⟩ := o
  have hr := hE.room
  have hm := hE.most
  unfold maxLen at hm
  have HL := hid_of hE.len
  have KG : Kept w ((w.alloc (Obj.cells #[.int .i64 nodes, .slice ao n cap] 24)).alloc (Obj.cells #[.int .i64 x0, .int .i64 x1, .int .i64 y0, .int .i64 y1, .int .i64 y2, .int .i64 y3] 38)) := ((Kept.refl w).alloc _).alloc _
  have g0 : ((w.alloc (Obj.cells #[.int .i64 nodes, .slice ao n cap] 24)).alloc (Obj.cells #[.int .i64 x0, .int .i64 x1, .int .i64 y0, .int .i64 y1, .int .i64 y2, .int .i64 y3] 38)).cell? ⟨w.heap.size, 0, none⟩ = some (.int .i64 nodes) := by simp [go_sem]
  have g1 : ((w.alloc (Obj.cells #[.int .i64 nodes, .slice ao n cap] 24)).alloc (Obj.cells #[.int .i64 x0, .int .i64 x1, .int .i64 y0, .int .i64 y1, .int .i64 y2, .int .i64 y3] 38)).cell? ⟨w.heap.size, 1, none⟩ = some (.slice ao n cap) := by simp [go_sem]
  have q0 : ((w.alloc (Obj.cells #[.int .i64 nodes, .slice ao n cap] 24)).alloc (Obj.cells #[.int .i64 x0, .int .i64 x1, .int .i64 y0, .int .i64 y1, .int .i64 y2, .int .i64 y3] 38)).cell? ⟨w.heap.size + 1, 0, none⟩ = some (.int .i64 x0) := by simp [go_sem]
  have q1 : ((w.alloc (Obj.cells #[.int .i64 nodes, .slice ao n cap] 24)).alloc (Obj.cells #[.int .i64 x0, .int .i64 x1, .int .i64 y0, .int .i64 y1, .int .i64 y2, .int .i64 y3] 38)).cell? ⟨w.heap.size + 1, 1, none⟩ = some (.int .i64 x1) := by simp [go_sem]
  have NG := hid_of (h.kept KG)
  have EG := hid_of (hE.kept KG)
  have KGH := hid_of KG
  have lw : w.heap.size + 1 < ((w.alloc (Obj.cells #[.int .i64 nodes, .slice ao n cap] 24)).alloc (Obj.cells #[.int .i64 x0, .int .i64 x1, .int .i64 y0, .int .i64 y1, .int .i64 y2, .int .i64 y3] 38)).heap.size := by simp
  clear h hE KG
  by_cases h5 : x0 = 5
  · subst h5
    by_cases hi : 0 ≤ x1 ∧ x1 < (n : Int)
    · obtain ⟨i, rfl⟩ : ∃ i : Nat, x1 = (i : Int) := ⟨x1.toNat, by omega⟩
      have hi2 : i < n := by omega
      have hi3 : (i : Int) < (n : Int) := hi.2
      have hi4 : ¬ (i : Int) < 0 := by omega
      have EC := hid_of (fun W (t : NetAt W B p nodes es) => edge_calls W B p nodes es t i (by have := HL.out; omega))
      obtain ⟨b, off, rfl, hc⟩ := EG.out.cell (by omega)
      obtain ⟨d1, d2, d3, d4⟩ := hc i hi2
      clear hc hi
      generalize edAt es i = ed at d1 d2 d3 d4 EC
      obtain ⟨ef, et, ec, ek⟩ := ed
      simp only at d1 d2 d3 d4
      have EE := edge_eql ef et ec ek
      go_enter Try.func28, Try.ntmps28
      go_wp2_with fail
      generalize hW1 : (w.alloc (Obj.cells #[.int .i64 nodes, .slice (some ⟨b, off, none⟩) n cap] 24)).alloc (Obj.cells #[.int .i64 5, .int .i64 (i : Int), .int .i64 y0, .int .i64 y1, .int .i64 y2, .int .i64 y3] 38) = W1 at *
      clear hW1
      refine (EC.out W1 NG.out).mono ?_
      rintro r w2 ⟨rfl, K2⟩
      have K3 := K2.alloc (Obj.cells #[.int .i64 ef, .int .i64 et, .int .i64 ec, .int .i64 ek] 36)
      have e0 : (w2.alloc (Obj.cells #[.int .i64 ef, .int .i64 et, .int .i64 ec, .int .i64 ek] 36)).cell? ⟨w2.heap.size, 0, none⟩ = some (.int .i64 ef) := by simp [go_sem]
      have e1 : (w2.alloc (Obj.cells #[.int .i64 ef, .int .i64 et, .int .i64 ec, .int .i64 ek] 36)).cell? ⟨w2.heap.size, 1, none⟩ = some (.int .i64 et) := by simp [go_sem]
      have e2 : (w2.alloc (Obj.cells #[.int .i64 ef, .int .i64 et, .int .i64 ec, .int .i64 ek] 36)).cell? ⟨w2.heap.size, 2, none⟩ = some (.int .i64 ec) := by simp [go_sem]
      have e3 : (w2.alloc (Obj.cells #[.int .i64 ef, .int .i64 et, .int .i64 ec, .int .i64 ek] 36)).cell? ⟨w2.heap.size, 3, none⟩ = some (.int .i64 ek) := by simp [go_sem]
      replace d1 := K3.cell d1
      replace d2 := K3.cell d2
      replace d3 := K3.cell d3
      replace d4 := K3.cell d4
      replace g1 := K3.cell g1
      replace q1 := K3.cell q1
      have KH := hid_of (KGH.out.trans K3)
      clear K2 K3 EC NG EG KGH g0 q0
      go_upto_region 3 with fail
      generalize hW2 : w2.alloc (Obj.cells #[.int .i64 ef, .int .i64 et, .int .i64 ec, .int .i64 ek] 36) = W2 at *
      clear hW2
      go_wp2_with fail
      refine Ord.region [(0, 0), (1, 0), (2, 0), (3, 1), (4, 0), (5, 1), (6, 0), (7, 1), (8, 0), (9, 1), (10, 0), (11, 0), (12, 0)] (fun w' => Kept W2 w') (by kernel_rfl) (by kernel_rfl) (by kernel_rfl) (by kernel_rfl) (fun _ _ d _ _ h => by cases d <;> exact h) ((Kept.refl _).drewN _) ?_
      repeat
        refine Ord.step rfl (fun Ko hK => ?_)
        simp only [Ord.body]
        go_simp
        first
          | (refine hK _ _ ?_; clear hK Ko)
          | (refine ⟨_, fun w' hS => (by have c0 := hS.cell g1; simp only [c0, Result.andThen]; rfl), hK _ _ ?_⟩; clear hK Ko)
          | (refine ⟨_, fun w' hS => (by have c0 := hS.cell q1; simp only [c0, Result.andThen]; rfl), hK _ _ ?_⟩; clear hK Ko)
          | (refine ⟨_, fun w' hS => (by have c0 := hS.cell e0; have c1 := hS.cell e1; have c2 := hS.cell e2; have c3 := hS.cell e3; simp only [c0, c1, c2, c3, Result.andThen]; rfl), hK _ _ ?_⟩; clear hK Ko)
          | (refine ⟨_, fun w' hS => (by have c0 := hS.cell d1; have c1 := hS.cell d2; have c2 := hS.cell d3; have c3 := hS.cell d4; simp only [c0, c1, c2, c3, Result.andThen]; rfl), hK _ _ ?_⟩; clear hK Ko)
      refine Ord.done ?_
      have KZ := hid_of (KH.out.drewN 1)
      go_wp2_with fail
      go_ret
      exact ⟨rfl, KZ.out⟩
    · have hi2 : x1 < 0 ∨ (es.length : Int) ≤ x1 := by have := HL.out; omega
      have hi3 : x1 < 0 ∨ (n : Int) ≤ x1 := by omega
      have EC := hid_of (fun W (t : NetAt W B p nodes es) => edgeBad_calls W B p nodes es t x1 hi2)
      have EE := edge_eql 0 0 0 0
      clear hi hi2
      rcases hi3 with hi3 | hi3
      · go_enter Try.func28, Try.ntmps28
        go_wp2_with fail
        generalize hW1 : (w.alloc (Obj.cells #[.int .i64 nodes, .slice ao n cap] 24)).alloc (Obj.cells #[.int .i64 5, .int .i64 x1, .int .i64 y0, .int .i64 y1, .int .i64 y2, .int .i64 y3] 38) = W1 at *
        clear hW1
        refine (EC.out W1 NG.out).mono ?_
        rintro r w2 ⟨rfl, K2⟩
        have K3 := K2.alloc (Obj.cells #[.int .i64 0, .int .i64 0, .int .i64 0, .int .i64 0] 36)
        replace g1 := K3.cell g1
        replace q1 := K3.cell q1
        have l2 : w.heap.size + 1 < w2.heap.size := Nat.lt_of_lt_of_le lw K2.size
        have ne : ¬ w2.heap.size = w.heap.size + 1 := by omega
        have KH := hid_of (KGH.out.trans K3)
        clear K2 K3 EC NG EG KGH g0 q0
        go_wp2_with fail
        go_ret
        exact ⟨rfl, KH.out⟩
      · have hi4 : ¬ x1 < 0 := by omega
        go_enter Try.func28, Try.ntmps28
        go_wp2_with fail
        generalize hW1 : (w.alloc (Obj.cells #[.int .i64 nodes, .slice ao n cap] 24)).alloc (Obj.cells #[.int .i64 5, .int .i64 x1, .int .i64 y0, .int .i64 y1, .int .i64 y2, .int .i64 y3] 38) = W1 at *
        clear hW1
        refine (EC.out W1 NG.out).mono ?_
        rintro r w2 ⟨rfl, K2⟩
        have K3 := K2.alloc (Obj.cells #[.int .i64 0, .int .i64 0, .int .i64 0, .int .i64 0] 36)
        replace g1 := K3.cell g1
        replace q1 := K3.cell q1
        have l2 : w.heap.size + 1 < w2.heap.size := Nat.lt_of_lt_of_le lw K2.size
        have ne : ¬ w2.heap.size = w.heap.size + 1 := by omega
        have ne2 : ¬ w2.heap.size = w.heap.size := by omega
        have KH := hid_of (KGH.out.trans K3)
        clear K2 K3 EC NG EG KGH g0 q0
        go_wp2_with fail
        go_ret
        exact ⟨rfl, KH.out⟩
  · have b5 : (x0 == 5) = false := by simpa using h5
    by_cases h6 : x0 = 6
    · subst h6
      have hlE : es.length ≤ 4096 := by have := HL.out; omega
      by_cases hv : 0 ≤ x1 ∧ x1 < nodes
      · have hv1 : ¬ x1 < 0 := by omega
        have hv2 : x1 < nodes := hv.2
        have hA1 : Hid (atOf (fun e => e.f == x1) nodes x1 es = (whereTo (fun e => e.f == x1) es es.length, 0)) := by unfold atOf; rw [if_pos hv]; rfl
        have hA2 : Hid (atOf (fun e => e.t == x1) nodes x1 es = (whereTo (fun e => e.t == x1) es es.length, 0)) := by unfold atOf; rw [if_pos hv]; rfl
        obtain ⟨z1, hz1⟩ : ∃ z1, Hid (whereTo (fun e => e.f == x1) es n = z1) := ⟨_, hid_of rfl⟩
        obtain ⟨z2, hz2⟩ : ∃ z2, Hid (whereTo (fun e => e.t == x1) es n = z2) := ⟨_, hid_of rfl⟩
        rw [← HL.out, hz1.out] at hA1
        rw [← HL.out, hz2.out] at hA2
        have OC := hid_of (fun W (t : NetAt W B p nodes es) => out_calls W B p nodes x1 es t hlE z1 0 hA1)
        have IC := hid_of (fun W (t : NetAt W B p nodes es) => in_calls W B p nodes x1 es t hlE z2 0 hA2)
        have OD := hid_of (fun W (t : ERow W ao n cap es) => outR_calls nodes ao n cap es x1 W t hn z1 hz1)
        have ID := hid_of (fun W (t : ERow W ao n cap es) => inR_calls nodes ao n cap es x1 W t hn z2 hz2)
        clear hA1 hA2 hz1 hz2 hv HL hlE
        go_enter Try.func28, Try.ntmps28
        go_wp2_with fail
        generalize hW1 : (w.alloc (Obj.cells #[.int .i64 nodes, .slice ao n cap] 24)).alloc (Obj.cells #[.int .i64 6, .int .i64 x1, .int .i64 y0, .int .i64 y1, .int .i64 y2, .int .i64 y3] 38) = W1 at *
        clear hW1
        refine (OC.out W1 NG.out).mono ?_
        rintro r w2 ⟨⟨a2, c2, rfl, J2⟩, K2⟩
        replace g0 := K2.cell g0
        replace g1 := K2.cell g1
        replace q1 := K2.cell q1
        have J2H := hid_of J2
        have N2 := hid_of (NG.out.kept K2)
        have E2 := hid_of (EG.out.kept K2)
        have KH2 := hid_of (KGH.out.trans K2)
        clear K2 J2 NG EG KGH q0 OC
        go_wp2_with fail
        refine (IC.out w2 N2.out).mono ?_
        rintro r w3 ⟨⟨a3, c3, rfl, J3⟩, K3⟩
        replace g0 := K3.cell g0
        replace g1 := K3.cell g1
        replace q1 := K3.cell q1
        have J3H := hid_of J3
        have J2K := hid_of (J2H.out.kept K3)
        have E3 := hid_of (E2.out.kept K3)
        have KH3 := hid_of (KH2.out.trans K3)
        clear K3 J3 J2H E2 KH2 N2 IC
        go_wp2_with fail
        refine (OD.out w3 E3.out).mono ?_
        rintro e w4 ⟨⟨a4, c4, rfl, J4⟩, K4⟩
        have I4 := hid_of (ints_calls a2 a4 z1.length c2 c4 z1 w4 (J2K.out.kept K4) J4)
        replace g0 := K4.cell g0
        replace g1 := K4.cell g1
        replace q1 := K4.cell q1
        have E4 := hid_of (E3.out.kept K4)
        have J4H := hid_of (J3H.out.kept K4)
        have KH4 := hid_of (KH3.out.trans K4)
        clear K4 J4 E3 J3H J2K OD KH3
        go_wp2_with fail
        refine I4.out.mono ?_
        rintro e w5 ⟨rfl, K5⟩
        replace g0 := K5.cell g0
        replace g1 := K5.cell g1
        replace q1 := K5.cell q1
        have E5 := hid_of (E4.out.kept K5)
        have J5H := hid_of (J4H.out.kept K5)
        have KH5 := hid_of (KH4.out.trans K5)
        clear K5 I4 E4 J4H KH4
        go_wp2_with fail
        refine (ID.out w5 E5.out).mono ?_
        rintro e w6 ⟨⟨a6, c6, rfl, J6⟩, K6⟩
        have I6 := hid_of (ints_calls a3 a6 z2.length c3 c6 z2 w6 (J5H.out.kept K6) J6)
        have KH6 := hid_of (KH5.out.trans K6)
        clear K6 J6 J5H E5 ID KH5 g0 g1 q1
        go_wp2_with fail
        refine I6.out.mono ?_
        rintro e w7 ⟨rfl, K7⟩
        have KZ := hid_of (KH6.out.trans K7)
        clear K7 I6 KH6
        go_wp2_with fail
        go_ret
        exact ⟨rfl, KZ.out⟩
      · have hv3 : x1 < 0 ∨ nodes ≤ x1 := by omega
        have hA1 : Hid (atOf (fun e => e.f == x1) nodes x1 es = ([], 30)) := by unfold atOf; rw [if_neg hv]; rfl
        have hA2 : Hid (atOf (fun e => e.t == x1) nodes x1 es = ([], 30)) := by unfold atOf; rw [if_neg hv]; rfl
        have OC := hid_of (fun W (t : NetAt W B p nodes es) => out_calls W B p nodes x1 es t hlE [] 30 hA1)
        have IC := hid_of (fun W (t : NetAt W B p nodes es) => in_calls W B p nodes x1 es t hlE [] 30 hA2)
        have hq : (x1 < 0) ∨ (¬ x1 < 0 ∧ nodes ≤ x1) := by omega
        clear hA1 hA2 hv HL hlE EG hv3
        rcases hq with hq | ⟨hq, hq2⟩
        all_goals
          go_enter Try.func28, Try.ntmps28
          go_wp2_with fail
          generalize hW1 : (w.alloc (Obj.cells #[.int .i64 nodes, .slice ao n cap] 24)).alloc (Obj.cells #[.int .i64 6, .int .i64 x1, .int .i64 y0, .int .i64 y1, .int .i64 y2, .int .i64 y3] 38) = W1 at *
          clear hW1
          refine (OC.out W1 NG.out).mono ?_
          rintro r w2 ⟨⟨a2, c2, rfl, J2⟩, K2⟩
          replace g0 := K2.cell g0
          replace g1 := K2.cell g1
          replace q1 := K2.cell q1
          have N2 := hid_of (NG.out.kept K2)
          have KH2 := hid_of (KGH.out.trans K2)
          clear K2 J2 NG KGH q0 OC
          go_wp2_with fail
          refine (IC.out w2 N2.out).mono ?_
          rintro r w3 ⟨⟨a3, c3, rfl, J3⟩, K3⟩
          replace g0 := K3.cell g0
          replace g1 := K3.cell g1
          replace q1 := K3.cell q1
          have KH3 := hid_of (KH2.out.trans K3)
          clear K3 J3 KH2 N2 IC
          go_wp2_with fail
          go_ret
          exact ⟨rfl, KH3.out⟩
    · have b6 : (x0 != 6) = true := by simpa using h6
      clear NG EG
      go_enter Try.func28, Try.ntmps28
      go_wp2_with fail
      go_ret
      exact ⟨rfl, KGH.out⟩
end Go.Proofs.Ythefeijgpgcecaa
