/- Order where there is none, and where the graph is refused. -/
import Derived.Test.YtjheiaegpoppaaaWkQ
namespace Go.Proofs.Ytjheiaegpoppaaa
open Go.RowKit

set_option maxRecDepth 100000 in
set_option maxHeartbeats 4000000 in
theorem orderBad_calls (nodes : Int) (ao : Option Addr) (m cap : Nat) (es : List Ed) (w : World) (h : ERow w ao m cap es) (c a : Int) (hf : Hid (faultOf nodes es = (c, a))) (hb : c ≠ 0) :
    Calls Try.prog 14 #[.agg #[.int .i64 nodes, .slice ao m cap]] w fun r w' => r = .returned (.tuple #[.slice none 0 0, .slice none 0 0, .int .i64 c]) ∧ Kept w w' := by
  have hfd : ∀ w : World, (Instr.field 50 (.agg #[.int .i64 c, .int .i64 a]) 0).run Try.prog w = .ok (.int .i64 c) w := fun _ => rfl
  have KG : Kept w ((w.alloc (Obj.cells #[.int .i64 nodes, .slice ao m cap] 24)).alloc (Obj.cells #[.slice none 0 0] 26)) := ((Kept.refl w).alloc _).alloc _
  have g0 : ((w.alloc (Obj.cells #[.int .i64 nodes, .slice ao m cap] 24)).alloc (Obj.cells #[.slice none 0 0] 26)).cell? ⟨w.heap.size, 0, none⟩ = some (.int .i64 nodes) := by simp [go_sem]
  have g1 : ((w.alloc (Obj.cells #[.int .i64 nodes, .slice ao m cap] 24)).alloc (Obj.cells #[.slice none 0 0] 26)).cell? ⟨w.heap.size, 1, none⟩ = some (.slice ao m cap) := by simp [go_sem]
  have f0 : ((w.alloc (Obj.cells #[.int .i64 nodes, .slice ao m cap] 24)).alloc (Obj.cells #[.slice none 0 0] 26)).cell? ⟨w.heap.size + 1, 0, none⟩ = some (.slice none 0 0) := by simp [go_sem]
  have f1 : ((w.alloc (Obj.cells #[.int .i64 nodes, .slice ao m cap] 24)).alloc (Obj.cells #[.slice none 0 0] 26)).frozen? ⟨w.heap.size + 1, 0, none⟩ = false := by simp [go_sem]
  have HE := hid_of (h.kept KG)
  have hq : (c != 0) = true := by simpa using hb
  clear h hb
  go_enter Try.func14, Try.ntmps14
  go_wp2_with fail
  go_step3
  go_wp2_with fail
  generalize hW0 : (w.alloc (Obj.cells #[.int .i64 nodes, .slice ao m cap] 24)).alloc (Obj.cells #[.slice none 0 0] 26) = W0 at KG g0 g1 f0 f1 HE ⊢
  clear hW0
  refine (check_calls nodes ao m cap es W0 HE.out c a hf).mono ?_
  rintro v wa ⟨rfl, K1⟩
  replace f1 := (Below.frozen (p := ⟨w.heap.size + 1, 0, none⟩) K1 (lt_cell f0)).trans f1
  replace f0 := K1.cell f0
  have KA : Hid (Kept w (wa.setCell ⟨w.heap.size + 1, 0, none⟩ (.slice none 0 0))) := (KG.trans K1).setCell (p := ⟨w.heap.size + 1, 0, none⟩) (by simp only; omega) _
  have FC := World.cell?_setCell_same wa ⟨w.heap.size + 1, 0, none⟩ (.slice none 0 0) f0
  clear K1 KG HE g1 g0
  go_wp2_with fail
  rw [Exit.noGoto_ret]
  exact bodyPost_ret (v := .tuple #[.slice none 0 0, .slice none 0 0, .int .i64 c]) (by simp [results, Try.results14, go_sem, FC]) rfl ⟨rfl, KA.out⟩

set_option maxRecDepth 100000 in
set_option maxHeartbeats 4000000 in
theorem orderN_calls (n : Nat) (hn : n ≤ 1024) (ao : Option Addr) (m cap : Nat) (es : List Ed) (w : World) (h : ERow w ao m cap es) (hf : Hid (faultOf (n : Int) es = (0, 0))) (hm4 : m ≤ 4096) (hrg : Hid (∀ e ∈ es, 0 ≤ e.f ∧ e.f < (n : Int) ∧ 0 ≤ e.t ∧ e.t < (n : Int))) (N : Nat) (hN : N < n) (hsucc : Hid (∀ k, k < N → ∃ v, nextV es n (ordl es n k) = some v)) (hlen : Hid (∀ k, k ≤ N → (ordl es n k).length = k)) (hend : Hid (nextV es n (ordl es n N) = none)) :
    Calls Try.prog 14 #[.agg #[.int .i64 (n : Int), .slice ao m cap]] w fun r w' => ∃ b L cc c, r = .returned (.tuple #[.slice none 0 0, .slice (some ⟨b, 0, none⟩) L cc, .int .i64 71]) ∧ Circ es c ∧ w'.ownsRow w.heap.size 3 1 (.slice (some ⟨b, 0, none⟩) L cc) L (jvals (qz c)) ∧ Kept w w' := by
  have hfd : ∀ w : World, (Instr.field 50 (.agg #[.int .i64 0, .int .i64 0]) 0).run Try.prog w = .ok (.int .i64 0) w := fun _ => by kernel_rfl
  have hmkB : ∀ w : World, (Instr.makeSlice 40 (.int .i64 (n : Int)) (.int .i64 (n : Int))).run Try.prog w = .ok (.slice (some ⟨w.heap.size, 0, none⟩) n n) (w.alloc (.cells (madeCells #[.bool false] n) 4)) :=
    fun w => run_make_row' 40 4 (.bool false) 1 Try.underlying40 infoB0 rfl .i64 .i64 n (by omega) (by omega) w
  have hmkI : ∀ w : World, (Instr.makeSlice 26 (.int .i64 (n : Int)) (.int .i64 (n : Int))).run Try.prog w = .ok (.slice (some ⟨w.heap.size, 0, none⟩) n n) (w.alloc (.cells (madeCells #[.int .i64 0] n) 3)) :=
    fun w => run_make_row' 26 3 (.int .i64 0) 8 Try.underlying26 infoJ0 rfl .i64 .i64 n (by omega) (by omega) w
  have KG : Kept w ((w.alloc (Obj.cells #[.int .i64 (n : Int), .slice ao m cap] 24)).alloc (Obj.cells #[.slice none 0 0] 26)) := ((Kept.refl w).alloc _).alloc _
  have g0 : ((w.alloc (Obj.cells #[.int .i64 (n : Int), .slice ao m cap] 24)).alloc (Obj.cells #[.slice none 0 0] 26)).cell? ⟨w.heap.size, 0, none⟩ = some (.int .i64 (n : Int)) := by simp [go_sem]
  have g1 : ((w.alloc (Obj.cells #[.int .i64 (n : Int), .slice ao m cap] 24)).alloc (Obj.cells #[.slice none 0 0] 26)).cell? ⟨w.heap.size, 1, none⟩ = some (.slice ao m cap) := by simp [go_sem]
  have f0 : ((w.alloc (Obj.cells #[.int .i64 (n : Int), .slice ao m cap] 24)).alloc (Obj.cells #[.slice none 0 0] 26)).cell? ⟨w.heap.size + 1, 0, none⟩ = some (.slice none 0 0) := by simp [go_sem]
  have f1 : ((w.alloc (Obj.cells #[.int .i64 (n : Int), .slice ao m cap] 24)).alloc (Obj.cells #[.slice none 0 0] 26)).frozen? ⟨w.heap.size + 1, 0, none⟩ = false := by simp [go_sem]
  have HE := hid_of (h.kept KG)
  have H0 := hid_of h
  have HL := hid_of h.len
  have hr := h.room
  have hmx := h.most
  unfold maxLen at hmx
  have hel : es.length ≤ 4096 := by have := h.len; omega
  clear h
  go_enter Try.func14, Try.ntmps14
  go_wp2_with fail
  go_step3
  go_wp2_with fail
  generalize hW0 : (w.alloc (Obj.cells #[.int .i64 (n : Int), .slice ao m cap] 24)).alloc (Obj.cells #[.slice none 0 0] 26) = W0 at KG g0 g1 f0 f1 HE ⊢
  clear hW0
  refine (check_calls (n : Int) ao m cap es W0 HE.out 0 0 hf).mono ?_
  rintro v wa ⟨rfl, K1⟩
  replace f1 := (Below.frozen (p := ⟨w.heap.size + 1, 0, none⟩) K1 (lt_cell f0)).trans f1
  replace g0 := K1.cell g0
  replace g1 := K1.cell g1
  replace f0 := K1.cell f0
  have HE1 := hid_of (HE.out.kept K1)
  have KA := hid_of (KG.trans K1)
  have lwa : w.heap.size + 1 < wa.heap.size := lt_cell f0
  clear K1 KG HE
  go_wp2_with fail
  refine (next_calls n hn ao m cap es wa HE1.out (by omega) (fun e he => ⟨(hrg.out e he).1, (hrg.out e he).2.1⟩)).mono ?_
  rintro v w4 ⟨q, rfl, N4, K4⟩
  have sq : q < w4.heap.size := by obtain ⟨_, r, _⟩ := N4.ex; exact r.lt
  -- the boxes and rows that follow
  have A1 : Kept w4 (w4.alloc (Obj.cells #[.slice (some ⟨q, 0, none⟩) n n] 53)) := (Kept.refl w4).alloc _
  have z1 : (w4.alloc (Obj.cells #[.slice (some ⟨q, 0, none⟩) n n] 53)).heap.size = w4.heap.size + 1 := by simp
  have x1 : (w4.alloc (Obj.cells #[.slice (some ⟨q, 0, none⟩) n n] 53)).cell? ⟨w4.heap.size, 0, none⟩ = some (.slice (some ⟨q, 0, none⟩) n n) := by simp [go_sem]
  replace f1 := (Below.frozen (p := ⟨w.heap.size + 1, 0, none⟩) (K4.trans A1) (lt_cell f0)).trans f1
  replace g0 := (K4.trans A1).cell g0
  replace g1 := (K4.trans A1).cell g1
  replace f0 := (K4.trans A1).cell f0
  have HE2 := hid_of (HE1.out.kept (K4.trans A1))
  have KB := hid_of (KA.out.trans (K4.trans A1))
  have l4 := K4.size
  have R4 := N4.reads (F := three (w4.heap.size + 1) (w4.heap.size + 3) (w.heap.size + 1)) (fun k t => by rcases t with t | t | t <;> omega)
  have RD4 := hid_of (R4.1.ch (Ch.of_kept (F := fun _ => False) A1) (fun _ t => t.elim) R4.2)
  have hq4 := hid_of R4.2
  clear N4 K4 R4 HE1 KA A1
  go_upto_region 5 with fail
  generalize hA1 : w4.alloc (Obj.cells #[.slice (some ⟨q, 0, none⟩) n n] 53) = A1 at *
  clear hA1
  have B2 := World.rowIs_made A1 (.bool false) n 4
  have K2 : Kept A1 (A1.alloc (.cells (madeCells #[.bool false] n) 4)) := (Kept.refl A1).alloc _
  have z2 : (A1.alloc (.cells (madeCells #[.bool false] n) 4)).heap.size = w4.heap.size + 2 := by simp [z1]
  rw [z1] at B2
  have K3 := K2.alloc (Obj.cells #[.slice (some ⟨w4.heap.size + 1, 0, none⟩) n n] 40)
  have x3 : ((A1.alloc (.cells (madeCells #[.bool false] n) 4)).alloc (Obj.cells #[.slice (some ⟨w4.heap.size + 1, 0, none⟩) n n] 40)).cell? ⟨w4.heap.size + 2, 0, none⟩ = some (.slice (some ⟨w4.heap.size + 1, 0, none⟩) n n) := by rw [← z2]; simp [go_sem]
  have z3 : ((A1.alloc (.cells (madeCells #[.bool false] n) 4)).alloc (Obj.cells #[.slice (some ⟨w4.heap.size + 1, 0, none⟩) n n] 40)).heap.size = w4.heap.size + 3 := by simp [z1]
  have B3 : Hid (BoolsAt ((A1.alloc (.cells (madeCells #[.bool false] n) 4)).alloc (Obj.cells #[.slice (some ⟨w4.heap.size + 1, 0, none⟩) n n] 40)) (w4.heap.size + 1) n (fun _ => false)) := World.rowIs.alloc B2 _
  have g03 := K3.cell g0
  have g13 := K3.cell g1
  clear B2 K2
  go_upto_region 6 with fail
  clear z2
  generalize hA3 : (A1.alloc (.cells (madeCells #[.bool false] n) 4)).alloc (Obj.cells #[.slice (some ⟨w4.heap.size + 1, 0, none⟩) n n] 40) = A3 at *
  clear hA3
  have I4 := World.rowIs_made A3 (.int .i64 0) n 3
  have K4 : Kept A3 (A3.alloc (.cells (madeCells #[.int .i64 0] n) 3)) := (Kept.refl A3).alloc _
  have z4 : (A3.alloc (.cells (madeCells #[.int .i64 0] n) 3)).heap.size = w4.heap.size + 4 := by simp [z3]
  rw [z3] at I4
  have K5 := K4.alloc (Obj.cells #[.slice (some ⟨w4.heap.size + 3, 0, none⟩) n n] 26)
  have x5 : ((A3.alloc (.cells (madeCells #[.int .i64 0] n) 3)).alloc (Obj.cells #[.slice (some ⟨w4.heap.size + 3, 0, none⟩) n n] 26)).cell? ⟨w4.heap.size + 4, 0, none⟩ = some (.slice (some ⟨w4.heap.size + 3, 0, none⟩) n n) := by rw [← z4]; simp [go_sem]
  have z5 : ((A3.alloc (.cells (madeCells #[.int .i64 0] n) 3)).alloc (Obj.cells #[.slice (some ⟨w4.heap.size + 3, 0, none⟩) n n] 26)).heap.size = w4.heap.size + 5 := by simp [z3]
  have I5 : Hid (IntsAt ((A3.alloc (.cells (madeCells #[.int .i64 0] n) 3)).alloc (Obj.cells #[.slice (some ⟨w4.heap.size + 3, 0, none⟩) n n] 26)) (w4.heap.size + 3) n (fun _ => 0)) := World.rowIs.alloc I4 _
  have B5 := hid_of (B3.out.kept K5)
  have K15 := hid_of (K3.trans K5)
  have y3 := K5.cell x3
  have y1 := K15.out.cell x1
  have g05 := K15.out.cell g0
  have g15 := K15.out.cell g1
  clear I4 K4 B3 K3
  go_upto_region 7 with fail
  clear z4 g03 g13
  generalize hA5 : (A3.alloc (.cells (madeCells #[.int .i64 0] n) 3)).alloc (Obj.cells #[.slice (some ⟨w4.heap.size + 3, 0, none⟩) n n] 26) = A5 at *
  clear hA5 K5 x3 x1 z3 hmkB hmkI hfd
  go_wp2_with fail
  have hga : A1.heap.size ≤ w4.heap.size + 3 := by omega
  go_loopw [10, 30] (fun _ i wr => ∃ k : Nat, k ≤ m ∧ i = .int .i64 (k : Int) ∧ IntsAt wr (w4.heap.size + 3) n (fun x => occ ((es.take k).map Ed.t) x) ∧ Ch (fun k => k = w4.heap.size + 3) A5 wr) (fun _ i _ => m - (intOf i).toNat)
  case atStart => exact ⟨0, by omega, rfl, I5.out, Ch.refl _ _⟩
  case round =>
    obtain ⟨k, hk, rfl, I2, C2⟩ := hrel
    clear I5
    have KW : Kept A1 wr := K15.out.ch C2 (fun k t => by omega)
    by_cases hgo : (k : Int) < (m : Int)
    · obtain ⟨b, off, rfl, hc⟩ := HE2.out.cell (by omega)
      obtain ⟨d1, d2, d3, d4⟩ := hc k (by omega)
      replace d1 := KW.cell d1
      replace d2 := KW.cell d2
      replace d3 := KW.cell d3
      replace d4 := KW.cell d4
      clear hc
      have hkl : k < es.length := by have := HL.out; omega
      have hmem : edAt es k ∈ es := by
        have : edAt es k = es[k] := by simp [edAt, List.getD, hkl]
        rw [this]; exact List.getElem_mem hkl
      have RG := hrg.out _ hmem
      have hsn : (es.take (k + 1)).map Ed.t = (es.take k).map Ed.t ++ [(edAt es k).t] := by rw [take_snocW es k hkl]; simp
      obtain ⟨x, hx⟩ : ∃ x : Nat, (edAt es k).t = (x : Int) := ⟨(edAt es k).t.toNat, by omega⟩
      have hxn : x < n := by rw [hx] at RG; omega
      rw [hx] at d2 hsn
      generalize (edAt es k).f = ef at d1
      generalize (edAt es k).c = ec at d3
      generalize (edAt es k).k = ek at d4
      have KE : Kept wr (wr.alloc (Obj.cells #[.int .i64 ef, .int .i64 (x : Int), .int .i64 ec, .int .i64 ek] 42)) := (Kept.refl wr).alloc _
      have e1 : (wr.alloc (Obj.cells #[.int .i64 ef, .int .i64 (x : Int), .int .i64 ec, .int .i64 ek] 42)).cell? ⟨wr.heap.size, 1, none⟩ = some (.int .i64 (x : Int)) := by simp [go_sem]
      have I3 := I2.kept KE
      have ix := I3.cell hxn
      have fx := World.rowIs.frozen I3 x
      have a2 := KE.cell (C2.cell x5 (by omega))
      have hxi : (x : Int) < (n : Int) := by omega
      have hoc : 0 ≤ occ ((es.take k).map Ed.t) x ∧ occ ((es.take k).map Ed.t) x ≤ 4096 := by
        unfold occ
        have : (((es.take k).map Ed.t).filter fun t => t == (x : Int)).length ≤ ((es.take k).map Ed.t).length := List.length_filter_le _ _
        have h2 : ((es.take k).map Ed.t).length ≤ 4096 := by simp; omega
        omega
      obtain ⟨z, hz⟩ : ∃ z, occ ((es.take k).map Ed.t) x = z := ⟨_, rfl⟩
      rw [hz] at ix hoc
      have hwr : IntKind.i64.wrap (z + 1) = z + 1 := by rw [IntKind.wrap_i64]; first | omega | (unfold wrap64; omega)
      have IN : Hid (IntsAt ((wr.alloc (Obj.cells #[.int .i64 ef, .int .i64 (x : Int), .int .i64 ec, .int .i64 ek] 42)).setCell ⟨w4.heap.size + 3, x, none⟩ (.int .i64 (z + 1))) (w4.heap.size + 3) n (fun y => occ ((es.take (k + 1)).map Ed.t) y)) :=
        (IntsAt.set I3 x (z + 1)).congr (fun y _ => by
          dsimp only
          rw [hsn, occ_snoc]
          by_cases e : y = x
          · subst e; rw [if_pos rfl, if_pos rfl, hz]
          · have : ¬ (x : Int) = (y : Int) := by omega
            simp [e, this])
      have CN : Hid (Ch (fun k => k = w4.heap.size + 3) A5 ((wr.alloc (Obj.cells #[.int .i64 ef, .int .i64 (x : Int), .int .i64 ec, .int .i64 ek] 42)).setCell ⟨w4.heap.size + 3, x, none⟩ (.int .i64 (z + 1)))) := (C2.alloc _).setCell (F := fun k => k = w4.heap.size + 3) (p := ⟨w4.heap.size + 3, x, none⟩) rfl _
      clear hmem RG hsn I2 C2 KW I3 hoc hz hx
      go_upto_region 10 with fail
      generalize hW9 : wr.alloc (Obj.cells #[.int .i64 ef, .int .i64 (x : Int), .int .i64 ec, .int .i64 ek] 42) = W9 at *
      clear hW9
      go_wp2_with fail
      go_roundw
      case rel => exact ⟨k + 1, by omega, by go_num, IN.out, CN.out⟩
      case measure => simp [intOf]; omega
    · obtain rfl : k = m := by omega
      have hall : es.take k = es := List.take_of_length_le (Nat.le_of_eq HL.out.symm)
      rw [hall] at I2
      have hnot : ∀ (x : Bool) (w : World), (Op.unary .not (.bool x)).run Try.prog w = .ok (.bool (!x)) w := fun _ _ => rfl
      obtain ⟨gc, hgc⟩ : ∃ gc, w4.heap.size + 1 = gc := ⟨_, rfl⟩
      obtain ⟨bc, hbc⟩ : ∃ bc, w4.heap.size + 2 = bc := ⟨_, rfl⟩
      obtain ⟨ga, hga'⟩ : ∃ ga, w4.heap.size + 3 = ga := ⟨_, rfl⟩
      obtain ⟨ba, hba⟩ : ∃ ba, w4.heap.size + 4 = ba := ⟨_, rfl⟩
      obtain ⟨bo, hbo⟩ : ∃ bo, w.heap.size + 1 = bo := ⟨_, rfl⟩
      obtain ⟨bn, hbn⟩ : ∃ bn, w4.heap.size = bn := ⟨_, rfl⟩
      have kc := C2.cell y3 (by omega)
      have kn := C2.cell y1 (by omega)
      have ka := C2.cell x5 (by omega)
      have kb := KW.cell f0
      have kz := (Below.frozen (p := ⟨w.heap.size + 1, 0, none⟩) KW (lt_cell f0)).trans f1
      have kg := KW.cell g0
      have kh := KW.cell g1
      have BS := B5.out.ch C2 (by omega)
      have RS := (RD4.out.ch (Ch.of_kept (F := fun _ => False) K15.out) (fun _ t => t.elim) hq4.out).ch C2 (fun k t => .inr (.inl t)) hq4.out
      have hq5 := hq4.out
      have hlw : w4.heap.size + 5 ≤ wr.heap.size := by rw [← z5]; exact C2.size
      have KWW := hid_of (KB.out.trans KW)
      rw [hgc, hga', hbo] at RS hq5
      rw [hgc] at kc BS
      rw [hbc] at kc
      rw [hga'] at ka I2
      rw [hba] at ka
      rw [hbo] at kb kz
      rw [hbn] at kn
      have O0 : Hid (OAt wr wr gc ga bo n (ordl es n 0) (fun v => (ordl es n 0).contains v) (cntIn es (ordl es n 0))) :=
        ⟨Ch.refl _ _, BS.congr (fun v _ => by simp [ordl]), I2.congr (fun x _ => by dsimp only; rw [cnt_nil]; rfl), ⟨none, 0, kb, World.ownsRow_nil _ _ _ _⟩, kz⟩
      have RDH := hid_of RS
      have e1 : gc < wr.heap.size := by omega
      have e2 : ga < wr.heap.size := by omega
      have e3 : bo < wr.heap.size := by omega
      have d1 : gc ≠ ga := by omega
      have d2 : gc ≠ bo := by omega
      have d3 : ga ≠ bo := by omega
      have nc : ¬ three gc ga bo bc := fun t => by rcases t with t | t | t <;> omega
      have nn : ¬ three gc ga bo bn := fun t => by rcases t with t | t | t <;> omega
      have na : ¬ three gc ga bo ba := fun t => by rcases t with t | t | t <;> omega
      have ng : ¬ three gc ga bo w.heap.size := fun t => by rcases t with t | t | t <;> omega
      have hwbo : w.heap.size ≤ bo := by omega
      have hwga : w.heap.size ≤ ga := by omega
      have hwgc : w.heap.size ≤ gc := by omega
      have HLs := hlen
      have OC : Hid (∀ w2 j v, j < N → v < n → OAt wr w2 gc ga bo n (ordl es n j) (fun v => (ordl es n j).contains v) (cntIn es (ordl es n j)) → nextV es n (ordl es n j) = some v →
          Calls Try.prog 33 #[.int .i64 (v : Int), .pointer (some ⟨bc, 0, none⟩), .pointer (some ⟨bo, 0, none⟩), .pointer (some ⟨bn, 0, none⟩), .pointer (some ⟨ba, 0, none⟩)] w2 fun r w' => r = .returned (.tuple #[]) ∧ OAt wr w' gc ga bo n (ordl es n (j + 1)) (fun v => (ordl es n (j + 1)).contains v) (cntIn es (ordl es n (j + 1)))) := fun w2 j v hj hv HO hnx => by
        have hl := HLs.out j (by omega)
        have hsp := nextV_spec hnx
        have hvm : v ∉ ordl es n j := by
          have := hsp.2.1
          unfold mayV at this
          simp only [Bool.and_eq_true, Bool.not_eq_true', List.contains_eq_mem, decide_eq_false_iff_not] at this
          exact this.1
        have e : ordl es n (j + 1) = ordl es n j ++ [v] := by
          show (match nextV es n (ordl es n j) with | some v => ordl es n j ++ [v] | none => ordl es n j) = _
          rw [hnx]
        refine (ocl_calls wr w2 gc ga bo bc bn ba q n hn (nxt es k) (fun v hv => Nat.le_trans (nxt_len es k v) hel) (fun v hv t ht => by
          obtain ⟨e, he, -, rfl⟩ := nxt_mem ht
          have := hrg.out e he
          omega) RDH hq5 kc kn ka nc nn na d1 d2 d3 e1 e2 e3 (ordl es n j) (by rw [hl]; omega) _ _ (fun x => by have := cnt_range es (ordl es n j) x; omega) HO v hv).mono ?_
        rintro r w' ⟨rfl, H'⟩
        refine ⟨rfl, H'.ch, ?_, ?_, ?_, H'.z⟩
        · exact H'.bools.congr (fun u _ => by
            rw [e]
            unfold comeNow
            by_cases hu : u = v
            · simp [hu]
            · simp [hu])
        · exact H'.ints.congr (fun x _ => by
            dsimp only
            rw [e, cnt_enter es (ordl es n j) v x hvm (fun e he => (hrg.out e he).1)]
            unfold nxt
            rw [hall])
        · rw [e]; exact H'.box
      clear B5 KB RD4 I2 C2 HE2 BS RS K15 hq4 KW hall y3 y1 x5 f0 f1 g0 g05 g15 g1
      rw [hgc, hbc, hga', hba, hbo, hbn]
      generalize hWS : wr = WS at *
      clear hgc hbc hga' hba hbn hga hlw z5 z1 l4 sq lwa
      go_wp2_with fail
      go_step3
      go_wp2_with fail
      go_loopg [12] N (fun gk _ w2 => ∃ j, j + gk = N ∧ OAt WS w2 gc ga bo n (ordl es n j) (fun v => (ordl es n j).contains v) (cntIn es (ordl es n j)))
      case atStart => exact ⟨0, by omega, O0.out⟩
      case round =>
        obtain ⟨j, hjg, OA⟩ := hrel
        have kc2 := OA.ch.cell kc nc
        have ka2 := OA.ch.cell ka na
        have kg2 := OA.ch.cell kg ng
        have kh2 := OA.ch.cell kh ng
        obtain ⟨so, sc, hbx, hown⟩ := OA.box
        have hfz := OA.z
        rw [HLs.out j (by omega)] at hbx hown
        have hrm := (JRow.of_owns hown).room
        have OAH := hid_of OA
        have HOWN := hid_of hown
        clear OA hown O0
        have hgo2 : (j : Int) < (n : Int) := by omega
        by_cases hjN : j < N
        · obtain ⟨v, hv⟩ := hsucc.out j (by omega)
          obtain ⟨hvn, hmay, hleast⟩ := nextV_spec hv
          have HV := hid_of hv
          have HMAY := hid_of hmay
          have HLEAST := hid_of hleast
          clear hv hmay hleast
          generalize hWR : wr = WR at *
          generalize hGK : gk = GK at *
          clear hWR hGK
          go_wp2_with fail
          go_loopg [12, 50] (n + 1) (fun g2 _ i w3 => ∃ u : Nat, u + g2 = n + 1 ∧ u ≤ v ∧ i = .int .i64 (u : Int) ∧ w3 = WR)
          case atStart => exact ⟨0, by omega, by omega, rfl, rfl⟩
          case round =>
            obtain ⟨u, hug, huv, rfl, rfl⟩ := hrel
            have hun : u < n := by omega
            have hui : (u : Int) < (n : Int) := by omega
            have cu := OAH.out.bools.cell hun
            have iu := OAH.out.ints.cell hun
            by_cases e : u = v
            · subst e
              have hm := HMAY.out
              unfold mayV at hm
              simp only [Bool.and_eq_true, Bool.not_eq_true', decide_eq_true_eq] at hm
              rw [hm.1] at cu
              rw [hm.2] at iu
              have CC := hid_of (OC.out wr j u (by omega) hun OAH.out HV.out)
              clear OAH HMAY HLEAST HOWN hm
              go_wp2_with fail
              refine CC.out.mono ?_
              rintro r w7 ⟨rfl, O7⟩
              have O7H := hid_of O7
              clear O7 CC cu iu hbx hfz kc2 ka2 kg2
              go_wp2_with fail
              go_roundg (GK - 1)
              case measure => omega
              case rel => exact ⟨j + 1, by omega, O7H.out⟩
            · have hm := HLEAST.out u (by omega)
              unfold mayV at hm
              by_cases hcu : (ordl es n j).contains u = true
              · rw [hcu] at cu
                clear hm
                go_wp2_with fail
                go_roundg (gk - 1)
                case measure => omega
                case rel => exact ⟨u + 1, by omega, by omega, by go_num, rfl⟩
              · replace hcu : (ordl es n j).contains u = false := by simpa using hcu
                rw [hcu] at cu hm
                have hne : ¬ cntIn es (ordl es n j) u = 0 := by simpa using hm
                generalize cntIn es (ordl es n j) u = cz at iu hne
                have q0 : (cz == 0) = false := by simpa using hne
                clear hm
                go_wp2_with fail
                go_roundg (gk - 1)
                case measure => omega
                case rel => exact ⟨u + 1, by omega, by omega, by go_num, rfl⟩
        · obtain rfl : j = N := by omega
          have KWR := hid_of (KWW.out.ch OAH.out.ch (fun k t => by rcases t with t | t | t <;> omega))
          have HLEAST : Hid (∀ u, u < n → mayV es (ordl es n j) u = false) := fun u hu => by
            have := hend.out
            unfold nextV at this
            rw [List.find?_eq_none] at this
            simpa using this u (by simpa using hu)
          have HST := hid_of (stuck_of (fun e he => (hrg.out e he).2.2.1) (hlen.out j (Nat.le_refl _)) hN hend.out)
          have CW := hid_of (cw_calls n hn ao k cap es wr (H0.out.kept KWR.out) hrg (ordl es n j) gc OAH.out.bools HST)
          generalize hWR : wr = WR at *
          clear hWR
          go_wp2_with fail
          go_loopg [12, 50] n (fun g2 _ i w3 => ∃ u : Nat, u + g2 = n ∧ i = .int .i64 (u : Int) ∧ w3 = WR)
          case atStart => exact ⟨0, by omega, rfl, rfl⟩
          case round =>
            obtain ⟨u, hug, rfl, rfl⟩ := hrel
            by_cases hui : (u : Int) < (n : Int)
            · have hun : u < n := by omega
              have cu := OAH.out.bools.cell hun
              have iu := OAH.out.ints.cell hun
              have hm := HLEAST.out u hun
              unfold mayV at hm
              by_cases hcu : (ordl es n j).contains u = true
              · rw [hcu] at cu
                clear hm
                go_wp2_with fail
                go_roundg (gk - 1)
                case measure => omega
                case rel => exact ⟨u + 1, by omega, by go_num, rfl⟩
              · replace hcu : (ordl es n j).contains u = false := by simpa using hcu
                rw [hcu] at cu hm
                have hne : ¬ cntIn es (ordl es n j) u = 0 := by simpa using hm
                generalize cntIn es (ordl es n j) u = cz at iu hne
                have q0 : (cz == 0) = false := by simpa using hne
                clear hm
                go_wp2_with fail
                go_roundg (gk - 1)
                case measure => omega
                case rel => exact ⟨u + 1, by omega, by go_num, rfl⟩
            · clear HLEAST HST OAH HOWN
              go_wp2_with fail
              refine CW.out.mono ?_
              rintro r w7 ⟨b7, L7, c7, cl, rfl, CC, O7, K7⟩
              have hbx7 := K7.cell hbx
              have hfz7 := (Below.frozen (p := ⟨bo, 0, none⟩) K7 (lt_cell hbx)).trans hfz
              have FK : Hid (Kept w (w7.setCell ⟨bo, 0, none⟩ (.slice none 0 0))) := (KWR.out.trans K7).setCell (p := ⟨bo, 0, none⟩) hwbo _
              have FC := World.cell?_setCell_same w7 ⟨bo, 0, none⟩ (.slice none 0 0) hbx7
              have hbw : bo < wr.heap.size := lt_cell hbx
              have FO : Hid ((w7.setCell ⟨bo, 0, none⟩ (.slice none 0 0)).ownsRow w.heap.size 3 1 (.slice (some ⟨b7, 0, none⟩) L7 c7) L7 (jvals (qz cl))) :=
                World.ownsRow.mono (ownsRow_setCell_other O7 (fun e => by have := (O7.lt _ e).1; simp only at this; omega) _) KWR.out.size
              have CCH := hid_of CC
              clear O7 K7 CC CW
              go_wp2_with fail
              rw [Exit.noGoto_ret]
              exact bodyPost_ret (v := .tuple #[.slice none 0 0, .slice (some ⟨b7, 0, none⟩) L7 c7, .int .i64 71]) (by simp [results, Try.results14, go_sem, FC]) rfl ⟨b7, L7, c7, cl, rfl, CCH.out, FO.out, FK.out⟩
end Go.Proofs.Ytjheiaegpoppaaa
