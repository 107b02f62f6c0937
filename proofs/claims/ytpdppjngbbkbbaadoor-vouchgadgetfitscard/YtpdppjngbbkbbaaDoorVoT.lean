/- oddEnds. -/
import Derived.Test.YtpdppjngbbkbbaaDoorVoS
namespace Go.Proofs.YtpdppjngbbkbbaaDoor
open Go.RowKit

set_option maxRecDepth 100000 in
set_option linter.unusedSimpArgs false in
set_option maxHeartbeats 4000000 in
theorem oddEnds_calls (co : Option Addr) (L cc : Nat) (c : List Int) (N : Nat) (ao : Option Addr) (n cap : Nat) (es : List Ed) (w : World) (hJ : JRow w co L cc c) (h : ERow w ao n cap es) (RG : Right N n es) (hr : ∀ j, j < L → 0 ≤ zAt c j ∧ zAt c j < (n : Int)) (hL : L ≤ 4096) :
    Calls Tryd.prog 82 #[.slice co L cc, .agg #[.int .i64 (N : Int), .slice ao n cap]] w fun r w' => ∃ so len sc, r = .returned (.slice so len sc) ∧ JRow w' so len sc (unevTo (odTo es c L) N) ∧ Kept w w' := by
  obtain ⟨i0, hi, hz0, hz1, hz2⟩ := infoJ
  have hr1 := h.room
  have hm1 := h.most
  have hr2 := hJ.room
  have hm2 := hJ.most
  unfold maxLen at hm1 hm2
  have hn := RG.edges
  have hN := RG.nodes
  have hmk : ∀ w : World, (Instr.makeSlice 94 (.int .i64 (N : Int)) (.int .i64 (N : Int))).run Tryd.prog w = .ok (.slice (some ⟨w.heap.size, 0, none⟩) N N) (w.alloc (.cells (madeCells #[.bool false] N) 4)) :=
    fun w => run_make_row' 94 4 (.bool false) 1 Tryd.underlying94 infoBl0 rfl .i64 .i64 N (by omega) (by omega) w
  have KW : Kept w (w.alloc (Obj.cells #[.int .i64 (N : Int), .slice ao n cap] 24)) := (Kept.refl w).alloc _
  have w0 : (w.alloc (Obj.cells #[.int .i64 (N : Int), .slice ao n cap] 24)).cell? ⟨w.heap.size, 0, none⟩ = some (.int .i64 (N : Int)) := by simp [go_sem]
  have w1 : (w.alloc (Obj.cells #[.int .i64 (N : Int), .slice ao n cap] 24)).cell? ⟨w.heap.size, 1, none⟩ = some (.slice ao n cap) := by simp [go_sem]
  have HE := hid_of h
  have HJ := hid_of hJ
  have RGH := hid_of RG
  have HR := hid_of hr
  clear h hJ RG hr
  go_enter Tryd.func82, Tryd.ntmps82
  go_upto_region 1 with fail
  generalize w.alloc (Obj.cells #[.int .i64 (N : Int), .slice ao n cap] 24) = W1 at KW w0 w1 ⊢
  obtain ⟨q, hq⟩ : ∃ q, W1.heap.size = q := ⟨_, rfl⟩
  have hwq' : w.heap.size < q := by rw [← hq]; exact lt_cell w1
  have hwq : w.heap.size ≤ q := by omega
  have KM : Kept W1 (W1.alloc (.cells (madeCells #[.bool false] N) 4)) := (Kept.refl W1).alloc _
  have B0 : BlsAt (W1.alloc (.cells (madeCells #[.bool false] N) 4)) q N (odTo es c 0) := by
    rw [← hq]; exact World.rowIs_made W1 (.bool false) N 4
  go_upto_region 2 with fail
  have w1' := KM.cell w1
  have HK := hid_of (KW.trans KM)
  have BH := hid_of B0
  generalize W1.alloc (.cells (madeCells #[.bool false] N) 4) = W2 at HK BH w1' ⊢
  clear hmk KM B0 KW w0 w1 hq
  go_wp2_with fail
  go_loopw [7, 8, 17] (fun _ _ i wr => ∃ (k : Nat), k ≤ L ∧ i = .int .i64 k ∧ Kept w wr ∧ BlsAt wr q N (odTo es c k) ∧ wr.cell? ⟨w.heap.size, 1, none⟩ = some (.slice ao n cap)) (fun _ _ i _ => L - (intOf i).toNat)
  case atStart => exact ⟨0, by omega, rfl, HK.out, BH.out, w1'⟩
  case round =>
    obtain ⟨k, hk, rfl, K, BR, w1⟩ := hrel
    have hnot : ∀ (x : Bool) (w : World), (Op.unary .not (.bool x)).run Tryd.prog w = .ok (.bool (!x)) w := fun _ _ => rfl
    have BRH := hid_of BR
    have KH := hid_of K
    clear BR BH HK w1'
    by_cases hgo : (k : Int) < (L : Int)
    · obtain ⟨b2, off2, rfl, hc2⟩ := (HJ.out.kept K).at (by omega)
      have d5 := hc2 k (by omega)
      obtain ⟨x1, x2⟩ := HR.out k (by omega)
      obtain ⟨x, hx⟩ : ∃ x : Nat, zAt c k = (x : Int) := ⟨(zAt c k).toNat, by omega⟩
      have hxn : x < n := by omega
      obtain ⟨b, off, rfl, hc⟩ := (HE.out.kept K).cell (by omega)
      obtain ⟨d1, d2, d3, d4⟩ := hc x hxn
      obtain ⟨e1, e2, e3, e4⟩ := RGH.out.ends x hxn
      have FF : frm es c k = (edAt es x).f := by unfold frm; rw [hx, Int.toNat_natCast]
      have TT : tto es c k = (edAt es x).t := by unfold tto; rw [hx, Int.toNat_natCast]
      rw [hx] at d5 x2
      have SU := hid_of (odTo_succ es c k)
      rw [FF, TT] at SU
      generalize odTo es c k = p at SU BRH
      generalize edAt es x = e at d1 d2 d3 d4 e1 e2 e3 e4 SU
      obtain ⟨ef, et, ec, ek⟩ := e
      simp only at d1 d2 d3 d4 e1 e2 e3 e4 SU
      obtain ⟨f, rfl⟩ : ∃ f : Nat, ef = (f : Int) := ⟨ef.toNat, by omega⟩
      obtain ⟨t, rfl⟩ : ∃ t : Nat, et = (t : Int) := ⟨et.toNat, by omega⟩
      have hfN : f < N := by omega
      have htN : t < N := by omega
      obtain ⟨eb, heb⟩ : ∃ eb, wr.heap.size = eb := ⟨_, rfl⟩
      have hqe : ¬ eb = q := by have := BRH.out.lt; omega
      clear hc hc2 hx x1 FF TT K
      go_upto_region 6 with fail
      generalize hW : wr.alloc (Obj.cells #[.int .i64 (f : Int), .int .i64 (t : Int), .int .i64 ec, .int .i64 ek] 86) = W3
      obtain ⟨EK, a0, a1, a2, a3, -⟩ := edge_box hW
      rw [heb] at a0 a1 a2 a3
      have K3 := hid_of (KH.out.trans EK)
      have B3 := hid_of (BRH.out.kept EK)
      have w13 := EK.cell w1
      clear d1 d2 d3 d4 EK KH hW heb BRH w1 a2 a3
      have cf := B3.out.cell hfN
      have ff := World.rowIs.frozen B3.out f
      have KD : Kept W3 (W3.drewN 1) := (Kept.refl W3).drewN 1
      refine Ord.regionZ 10 [(0, 0), (1, 0), (2, 1), (3, 0), (4, 0), (5, 1), (6, 0), (7, 1), (8, 0), (9, 0), (10, 3)] (fun w' => Kept W3 w') (by kernel_rfl) (by kernel_rfl) (by kernel_rfl) (by kernel_rfl) (fun _ _ d _ _ h => by cases d <;> exact h) ((Kept.refl _).drewN _) ?_
      repeat
        refine Ord.stepZ rfl (fun Ko hK => ?_)
        simp only [Ord.bodyZ, Ord.body]
        go_simp
        first
          | (refine hK _ _ ?_; clear hK Ko)
          | (refine ⟨(Kept.refl _).drewN _, hK _ _ ?_⟩; clear hK Ko)
          | (refine ⟨_, fun w' hS => (by have c0 := hS.cell a0; simp only [c0, Result.andThen]; rfl), hK _ _ ?_⟩; clear hK Ko)
          | (refine ⟨_, fun w' hS => (by have c0 := hS.cell cf; simp only [c0, Result.andThen]; rfl), hK _ _ ?_⟩; clear hK Ko)
      refine Ord.doneZ ?_
      have B4 := hid_of ((B3.out.kept KD).set f (!p f))
      have K4 := hid_of ((K3.out.trans KD).setCell (p := ⟨q, f, none⟩) hwq (.bool (!p f)))
      have b1 := cell_put (i := f) (u := .bool (!p f)) (KD.cell a1) hqe
      have w14 := cell_put (i := f) (u := .bool (!p f)) (KD.cell w13) (by omega : ¬ w.heap.size = q)
      generalize (W3.drewN 1).setCell ⟨q, f, none⟩ (.bool (!p f)) = W4 at B4 K4 b1 w14 ⊢
      clear a0 a1 cf ff KD B3 K3 w13
      have B4' : BlsAt W4 q N (flip p (f : Int)) := World.rowIs.congr B4.out (fun v _ => by
        show Value.bool (if v = f then !p f else p v) = .bool (if (f : Int) = (v : Int) then !p v else p v)
        by_cases e : v = f
        · subst e; simp
        · have : ¬ (f : Int) = (v : Int) := by omega
          rw [if_neg e, if_neg this])
      generalize flip p (f : Int) = p2 at B4' SU
      have B5 := hid_of B4'
      have ct := B5.out.cell htN
      have ft := World.rowIs.frozen B5.out t
      have KD : Kept W4 (W4.drewN 1) := (Kept.refl W4).drewN 1
      go_wp2_with fail
      refine Ord.regionZ 10 [(0, 0), (1, 0), (2, 1), (3, 0), (4, 0), (5, 1), (6, 0), (7, 1), (8, 0), (9, 0), (10, 3)] (fun w' => Kept W4 w') (by kernel_rfl) (by kernel_rfl) (by kernel_rfl) (by kernel_rfl) (fun _ _ d _ _ h => by cases d <;> exact h) ((Kept.refl _).drewN _) ?_
      repeat
        refine Ord.stepZ rfl (fun Ko hK => ?_)
        simp only [Ord.bodyZ, Ord.body]
        go_simp
        first
          | (refine hK _ _ ?_; clear hK Ko)
          | (refine ⟨(Kept.refl _).drewN _, hK _ _ ?_⟩; clear hK Ko)
          | (refine ⟨_, fun w' hS => (by have c0 := hS.cell b1; simp only [c0, Result.andThen]; rfl), hK _ _ ?_⟩; clear hK Ko)
          | (refine ⟨_, fun w' hS => (by have c0 := hS.cell ct; simp only [c0, Result.andThen]; rfl), hK _ _ ?_⟩; clear hK Ko)
      refine Ord.doneZ ?_
      have B6 : Hid (BlsAt ((W4.drewN 1).setCell ⟨q, t, none⟩ (.bool (!p2 t))) q N (odTo es c (k + 1))) := ((B5.out.kept KD).set t (!p2 t)).congr (fun v _ => by
        rw [SU.out]
        show Value.bool (if v = t then !p2 t else p2 v) = .bool (if (t : Int) = (v : Int) then !p2 v else p2 v)
        by_cases e : v = t
        · subst e; simp
        · have : ¬ (t : Int) = (v : Int) := by omega
          rw [if_neg e, if_neg this])
      have K6 := hid_of ((K4.out.trans KD).setCell (p := ⟨q, t, none⟩) hwq (.bool (!p2 t)))
      have w16 := hid_of (cell_put (i := t) (u := .bool (!p2 t)) (KD.cell w14) (by omega : ¬ w.heap.size = q))
      generalize (W4.drewN 1).setCell ⟨q, t, none⟩ (.bool (!p2 t)) = W6 at B6 K6 w16 ⊢
      clear b1 ct ft KD B5 K4 w14 B4 B4'
      go_wp2_with fail
      go_roundw
      case rel => exact ⟨k + 1, by omega, by go_num, K6.out, B6.out, w16.out⟩
      case measure => simp [intOf]; omega
    · obtain rfl : k = L := by omega
      clear K w1
      obtain ⟨p, hpe⟩ : ∃ p, odTo es c k = p := ⟨_, rfl⟩
      rw [hpe] at BRH
      have HPE := hid_of hpe
      clear hpe
      obtain ⟨WQ, hWQ⟩ : ∃ x : World, x = wr := ⟨_, rfl⟩
      subst hWQ
      have O1 : Hid (WQ.ownsRow WQ.heap.size 3 1 (.slice none 0 0) (unevTo p 0).length (jvals (unevTo p 0))) := World.ownsRow_nil _ _ _ _
      have C1 : Hid (Kept WQ WQ) := Kept.refl WQ
      go_wp2_with fail
      go_loopw [9, 10, 11, 49] (fun qv _ _ i w2 => ∃ (j : Nat), j ≤ N ∧ i = .int .i64 j ∧ w2.ownsRow WQ.heap.size 3 1 qv (unevTo p j).length (jvals (unevTo p j)) ∧ Kept WQ w2) (fun _ _ _ i _ => N - (intOf i).toNat)
      case atStart => exact ⟨0, by omega, rfl, O1.out, C1.out⟩
      case round =>
        obtain ⟨j, hj, rfl, OR, K2⟩ := hrel
        clear O1 C1
        have K2H := hid_of K2
        obtain ⟨len, hlen⟩ : ∃ len, (unevTo p j).length = len := ⟨_, rfl⟩
        have hlj := unevTo_len p j
        rw [hlen] at OR hlj
        have HLEN := hid_of hlen
        obtain ⟨so, sc, rfl⟩ := owns_slice1j OR
        have ORH := hid_of OR
        by_cases hgo2 : (j : Int) < (N : Int)
        · have hjN : j < N := by omega
          have cj := (BRH.out.kept K2).cell hjN
          have SU := hid_of (unevTo_succ p j)
          clear K2 OR hlen
          by_cases hp : p j = true
          · rw [hp] at cj
            have SU2 : Hid (unevTo p (j + 1) = unevTo p j ++ [(j : Int)]) := by show _ = _; rw [SU.out, if_pos hp]
            have NW := hid_of (cell_newj wr 3 (.int .i64 (j : Int)))
            have HM := hid_of (World.ownsRow.alloc ORH.out (Obj.cells #[.int .i64 (j : Int)] 3))
            have hbw : WQ.heap.size ≤ wr.heap.size := K2H.out.size
            clear SU hp
            go_wp2_with (at_builtin; refine wpList_append_own_at _ rfl _ _ 25 rfl WQ.heap.size 3 i0 (.int .i64 0) 1 8 Tryd.underlying25 hi hz0 hz1 hz2 rfl (by decide) _ _ _ rfl HM.out ⟨wr.heap.size, 0, none⟩ 1 1 [.int .i64 (j : Int)] rfl rfl NW.out (by intro u hu; simp at hu; subst hu; rfl) (by unfold maxLen; omega) (by omega) (by simp; omega) ?_)
            intro u' w4 hown hgrow _ _
            have O4 : Hid (w4.ownsRow WQ.heap.size 3 1 u' (unevTo p (j + 1)).length (jvals (unevTo p (j + 1)))) := by
              rw [SU2.out]
              show w4.ownsRow WQ.heap.size 3 1 u' (unevTo p j ++ [(j : Int)]).length (jvals (unevTo p j ++ [(j : Int)]))
              rw [← jvals_snoc, List.length_append, HLEN.out]
              exact hown
            have KA : Kept WQ (wr.alloc (Obj.cells #[.int .i64 (j : Int)] 3)) := K2H.out.alloc _
            have K4 := hid_of (Below.grown KA hgrow KA.size (fun kk e => (ORH.out.lt kk e).1))
            have K4' : Hid (Kept WQ w4) := K4.out
            clear hown hgrow HM NW ORH KA K4 K2H
            go_wp2_with fail
            go_roundw
            case rel => exact ⟨j + 1, by omega, by go_num, O4.out, K4'.out⟩
            case measure => simp [intOf]; omega
          · have hp' : p j = false := by simpa using hp
            rw [hp'] at cj
            have O4 : Hid (wr.ownsRow WQ.heap.size 3 1 (.slice so len sc) (unevTo p (j + 1)).length (jvals (unevTo p (j + 1)))) := by
              rw [SU.out, if_neg hp, HLEN.out]
              exact ORH.out
            clear SU hp hp' ORH
            go_wp2_with fail
            go_roundw
            case rel => exact ⟨j + 1, by omega, by go_num, O4.out, K2H.out⟩
            case measure => simp [intOf]; omega
        · obtain rfl : j = N := by omega
          have JF := hid_of (JRow.of_owns OR)
          have KF := hid_of (KH.out.trans K2)
          clear OR K2 ORH
          go_wp2
          go_ret
          exact ⟨so, len, sc, rfl, by rw [HPE.out]; exact JF.out, KF.out⟩
end Go.Proofs.YtpdppjngbbkbbaaDoor
