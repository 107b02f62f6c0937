/- WalkNests: the walk of the law. -/
import Derived.Test.YtjheiaegpoppaaaViF
import Derived.Test.YtjheiaegpoppaaaWkU
namespace Go.Proofs.Ytjheiaegpoppaaa
open Go.RowKit

set_option maxRecDepth 100000 in
set_option maxHeartbeats 4000000 in
theorem walkNestsBad (nodes : Int) (ao : Option Addr) (m cap : Nat) (es : List Ed) (w : World) (h : ERow w ao m cap es) (c a : Int) (hf : Hid (faultOf nodes es = (c, a))) (hb : c ≠ 0) :
    Calls Try.prog 6 #[.agg #[.int .i64 nodes, .slice ao m cap]] w fun v w' => v = .returned (.bool true) ∧ Kept w w' := by
  have hnot : ∀ (x : Bool) (w : World), (Op.unary .not (.bool x)).run Try.prog w = .ok (.bool (!x)) w := fun _ _ => rfl
  have KG : Kept w (w.alloc (Obj.cells #[.int .i64 nodes, .slice ao m cap] 24)) := (Kept.refl w).alloc _
  have g0 : (w.alloc (Obj.cells #[.int .i64 nodes, .slice ao m cap] 24)).cell? ⟨w.heap.size, 0, none⟩ = some (.int .i64 nodes) := by simp [go_sem]
  have g1 : (w.alloc (Obj.cells #[.int .i64 nodes, .slice ao m cap] 24)).cell? ⟨w.heap.size, 1, none⟩ = some (.slice ao m cap) := by simp [go_sem]
  have HE := hid_of (h.kept KG)
  have HB := hid_of hb
  have q0 : (c != 0) = true := by simpa using hb
  clear h hb
  go_enter Try.func6, Try.ntmps6
  go_wp2_with fail
  generalize hW0 : w.alloc (Obj.cells #[.int .i64 nodes, .slice ao m cap] 24) = W0 at KG g0 g1 HE ⊢
  clear hW0
  refine (awake_calls W0).mono ?_
  rintro v wa ⟨rfl, K1⟩
  replace g0 := K1.cell g0
  replace g1 := K1.cell g1
  have HE1 := hid_of (HE.out.kept K1)
  have KA := hid_of (KG.trans K1)
  clear K1 KG HE
  go_wp2_with fail
  refine (visitBad_calls nodes ao m cap es wa HE1.out c a hf HB.out).mono ?_
  rintro v wb ⟨rfl, K2⟩
  have KB := hid_of (KA.out.trans K2)
  clear K2 KA HE1 g0 g1
  go_wp2_with fail
  go_ret
  exact ⟨rfl, KB.out⟩

set_option maxRecDepth 100000 in
set_option maxHeartbeats 8000000 in
theorem walkNestsGood (n : Nat) (hn : n ≤ 1024) (ao : Option Addr) (m cap : Nat) (es : List Ed) (w : World) (h : ERow w ao m cap es) (hf : Hid (faultOf (n : Int) es = (0, 0))) (hm4 : m ≤ 4096) (hrg : Hid (∀ e ∈ es, 0 ≤ e.f ∧ e.f < (n : Int) ∧ 0 ≤ e.t ∧ e.t < (n : Int))) :
    Calls Try.prog 6 #[.agg #[.int .i64 (n : Int), .slice ao m cap]] w fun v w' => v = .returned (.bool true) ∧ Kept w w' := by
  have hnot : ∀ (x : Bool) (w : World), (Op.unary .not (.bool x)).run Try.prog w = .ok (.bool (!x)) w := fun _ _ => rfl
  obtain ⟨n2, hn2⟩ : ∃ n2, 2 * n = n2 := ⟨_, rfl⟩
  have hn2i : 2 * (n : Int) = (n2 : Int) := by omega
  have hmkB : ∀ w : World, (Instr.makeSlice 40 (.int .i64 (n2 : Int)) (.int .i64 (n2 : Int))).run Try.prog w = .ok (.slice (some ⟨w.heap.size, 0, none⟩) n2 n2) (w.alloc (.cells (madeCells #[.bool false] n2) 4)) :=
    fun w => run_make_row' 40 4 (.bool false) 1 Try.underlying40 infoB0 rfl .i64 .i64 n2 (by omega) (by omega) w
  have KG : Kept w (w.alloc (Obj.cells #[.int .i64 (n : Int), .slice ao m cap] 24)) := (Kept.refl w).alloc _
  have g0 : (w.alloc (Obj.cells #[.int .i64 (n : Int), .slice ao m cap] 24)).cell? ⟨w.heap.size, 0, none⟩ = some (.int .i64 (n : Int)) := by simp [go_sem]
  have g1 : (w.alloc (Obj.cells #[.int .i64 (n : Int), .slice ao m cap] 24)).cell? ⟨w.heap.size, 1, none⟩ = some (.slice ao m cap) := by simp [go_sem]
  have HE := hid_of (h.kept KG)
  have HL := hid_of h.len
  have hr := h.room
  have hmx := h.most
  unfold maxLen at hmx
  clear h
  go_enter Try.func6, Try.ntmps6
  go_wp2_with fail
  generalize hW0 : w.alloc (Obj.cells #[.int .i64 (n : Int), .slice ao m cap] 24) = W0 at KG g0 g1 HE ⊢
  clear hW0
  refine (awake_calls W0).mono ?_
  rintro v wa ⟨rfl, K1⟩
  replace g0 := K1.cell g0
  replace g1 := K1.cell g1
  have HE1 := hid_of (HE.out.kept K1)
  have KA := hid_of (KG.trans K1)
  clear K1 KG HE
  go_wp2_with fail
  refine (visit_calls n hn ao m cap es wa HE1.out hf hm4 hrg).mono ?_
  rintro v wb ⟨gp, gq, rfl, P2, Q2, -, -, -, K2⟩
  have NS := hid_of (nested_of hrg.out)
  obtain ⟨p, hp⟩ : ∃ p, (times es n).pre = p := ⟨_, rfl⟩
  obtain ⟨q, hq⟩ : ∃ q, (times es n).post = q := ⟨_, rfl⟩
  rw [hp] at P2 NS
  rw [hq] at Q2 NS
  replace g0 := K2.cell g0
  replace g1 := K2.cell g1
  have HE2 := hid_of (HE1.out.kept K2)
  have KB := hid_of (KA.out.trans K2)
  have lgp := P2.lt
  have lgq := Q2.lt
  have PH := hid_of P2
  have QH := hid_of Q2
  have qn : ((n : Int) != (n : Int)) = false := by simp
  clear P2 Q2 K2 HE1 KA hp hq
  have B3 := World.rowIs_made wb (.bool false) n2 4
  have K3 : Kept wb (wb.alloc (.cells (madeCells #[.bool false] n2) 4)) := (Kept.refl wb).alloc _
  have B3H : Hid (BoolsAt (wb.alloc (.cells (madeCells #[.bool false] n2) 4)) wb.heap.size n2 (fun x => (usedT p q 0).contains x)) := World.rowIs.congr B3 (fun i _ => by simp [usedT])
  have P3 := hid_of (PH.out.kept K3)
  have Q3 := hid_of (QH.out.kept K3)
  have K3H := hid_of K3
  clear B3
  go_upto_region 9 with fail
  generalize hW3 : wb.alloc (.cells (madeCells #[.bool false] n2) 4) = W3 at *
  clear hW3 hmkB K3
  obtain ⟨gu, hgu⟩ : ∃ gu, wb.heap.size = gu := ⟨_, rfl⟩
  rw [hgu] at B3H ⊢
  have HGU := hid_of hgu
  have npu : ¬ gp = gu := by omega
  have nqu : ¬ gq = gu := by omega
  have hgw : ¬ w.heap.size = gu := by have := lt_cell g0; simp only at this; omega
  have x1 := K3H.out.cell g1
  clear hgu
  go_wp2_with fail
  go_loopw [49] (fun i wr => ∃ k : Nat, k ≤ n ∧ i = .int .i64 (k : Int) ∧ BoolsAt wr gu n2 (fun x => (usedT p q k).contains x) ∧ Ch (fun j => j = gu) W3 wr) (fun i _ => n - (intOf i).toNat)
  case atStart => exact ⟨0, by omega, rfl, B3H.out, Ch.refl _ _⟩
  case round =>
    obtain ⟨k, hk, rfl, B4, C4⟩ := hrel
    clear B3H
    have P4 := P3.out.ch C4 npu
    have Q4 := Q3.out.ch C4 nqu
    by_cases hgo : (k : Int) < (n : Int)
    · have hkn : k < n := by omega
      have pk := P4.cell hkn
      have qk := Q4.cell hkn
      have PO := NS.out.pos k hkn
      have UN := usedT_new NS.out hkn
      obtain ⟨a, ha⟩ : ∃ a : Nat, p k = (a : Int) := ⟨(p k).toNat, by omega⟩
      obtain ⟨b, hb⟩ : ∃ b : Nat, q k = (b : Int) := ⟨(q k).toNat, by omega⟩
      have US : Hid (usedT p q (k + 1) = usedT p q k ++ [a] ++ [b]) := by
        show usedT p q k ++ [(p k).toNat] ++ [(q k).toNat] = _
        rw [ha, hb, Int.toNat_natCast, Int.toNat_natCast]
      rw [ha, hb] at PO UN
      rw [Int.toNat_natCast, Int.toNat_natCast] at UN
      rw [ha] at pk
      rw [hb] at qk
      have han : a < n2 := by omega
      have hbn : b < n2 := by omega
      have hani : (a : Int) < (n2 : Int) := by omega
      have hbni : (b : Int) < (n2 : Int) := by omega
      have hab : ¬ (b : Int) ≤ (a : Int) := by omega
      have na : ¬ (n2 : Int) ≤ (a : Int) := by omega
      have nb : ¬ (n2 : Int) ≤ (b : Int) := by omega
      have UNH := hid_of UN
      have HA := hid_of ha
      have HB := hid_of hb
      have B4H := hid_of B4
      have C4H := hid_of C4
      have P4H := hid_of P4
      have Q4H := hid_of Q4
      clear B4 C4 P4 Q4 UN PO ha hb
      go_wp2_with fail
      go_region
      have KL : Kept wr (wr.alloc (Obj.cells #[.int .i64 (a : Int), .int .i64 (b : Int)] 3)).drew := ((Kept.refl wr).alloc _).drew
      have L0 : (wr.alloc (Obj.cells #[.int .i64 (a : Int), .int .i64 (b : Int)] 3)).drew.cell? ⟨wr.heap.size, 0, none⟩ = some (.int .i64 (a : Int)) := by simp [go_sem]
      have L1 : (wr.alloc (Obj.cells #[.int .i64 (a : Int), .int .i64 (b : Int)] 3)).drew.cell? ⟨wr.heap.size, 0 + 1, none⟩ = some (.int .i64 (b : Int)) := by simp [go_sem]
      have B5H : Hid (BoolsAt (wr.alloc (Obj.cells #[.int .i64 (a : Int), .int .i64 (b : Int)] 3)).drew gu n2 (fun x => (usedT p q k ++ [a, b].take 0).contains x)) := (B4H.out.kept KL).congr (fun x _ => by simp)
      have CL := hid_of (C4H.out.trans (Ch.of_kept KL))
      have P5 := hid_of (P4H.out.kept KL)
      have Q5 := hid_of (Q4H.out.kept KL)
      have hgl : ¬ wr.heap.size = gu := by have := B4H.out.lt; omega
      generalize hWL : (wr.alloc (Obj.cells #[.int .i64 (a : Int), .int .i64 (b : Int)] 3)).drew = WL at *
      clear hWL KL pk qk B4H C4H P4H Q4H
      generalize wr.heap.size = gl at *
      go_wp2_with fail
      go_loopw [62] (fun i wr => ∃ j : Nat, j ≤ 2 ∧ i = .int .i64 (j : Int) ∧ BoolsAt wr gu n2 (fun x => (usedT p q k ++ [a, b].take j).contains x) ∧ Ch (fun j => j = gu) WL wr) (fun i _ => 2 - (intOf i).toNat)
      case atStart => exact ⟨0, by omega, rfl, B5H.out, Ch.refl _ _⟩
      case round =>
        obtain ⟨j, hj, rfl, B5, C5⟩ := hrel
        clear B5H
        by_cases hgo2 : (j : Int) < 2
        · have hjj : j = 0 ∨ j = 1 := by omega
          rcases hjj with rfl | rfl
          · have cx := L0
            have hcx := C5.cell cx hgl
            have hux : (usedT p q k).contains a = false := UNH.out.1
            have bx := B5.cell han
            simp only [List.take_zero, List.append_nil] at bx B5
            rw [hux] at bx
            have fx := World.rowIs.frozen B5 a
            have BN : Hid (BoolsAt (wr.setCell ⟨gu, a, none⟩ (.bool true)) gu n2 (fun y => (usedT p q k ++ [a, b].take (0 + 1)).contains y)) := (BoolsAt.set B5 a true).congr (fun y _ => by
              simp only [List.take_succ_cons, List.take_zero]
              by_cases e : y = a
              · simp [e]
              · simp [e])
            have CN : Hid (Ch (fun j => j = gu) WL (wr.setCell ⟨gu, a, none⟩ (.bool true))) := C5.setCell (F := fun j => j = gu) (p := ⟨gu, a, none⟩) rfl _
            clear B5 C5 hux cx
            go_wp2_with fail
            go_roundw
            case rel => exact ⟨0 + 1, by omega, by go_num, BN.out, CN.out⟩
            case measure => simp [intOf]
          · have cx := L1
            have hcx := C5.cell cx hgl
            have hux : (usedT p q k ++ [a]).contains b = false := UNH.out.2
            have bx := B5.cell hbn
            simp only [List.take_succ_cons, List.take_zero] at bx B5
            rw [hux] at bx
            have fx := World.rowIs.frozen B5 b
            have BN : Hid (BoolsAt (wr.setCell ⟨gu, b, none⟩ (.bool true)) gu n2 (fun y => (usedT p q k ++ [a, b].take (1 + 1)).contains y)) := (BoolsAt.set B5 b true).congr (fun y _ => by
              simp only [List.take_succ_cons, List.take_zero]
              by_cases e : y = b
              · simp [e]
              · simp [e])
            have CN : Hid (Ch (fun j => j = gu) WL (wr.setCell ⟨gu, b, none⟩ (.bool true))) := C5.setCell (F := fun j => j = gu) (p := ⟨gu, b, none⟩) rfl _
            clear B5 C5 hux cx
            go_wp2_with fail
            go_roundw
            case rel => exact ⟨1 + 1, by omega, by go_num, BN.out, CN.out⟩
            case measure => simp [intOf]
        · obtain rfl : j = 2 := by omega
          have B6 : Hid (BoolsAt wr gu n2 (fun x => (usedT p q (k + 1)).contains x)) := B5.congr (fun x _ => by rw [US.out]; simp)
          have C6 := hid_of (CL.out.trans C5)
          have P6 := P5.out.ch C5 npu
          have Q6 := Q5.out.ch C5 nqu
          have pk := P6.cell hkn
          have qk := Q6.cell hkn
          rw [HA.out] at pk
          rw [HB.out] at qk
          have P6H := hid_of P6
          have Q6H := hid_of Q6
          clear B5 C5 P6 Q6 P5 Q5 CL L0 L1
          generalize hWR : wr = WR at *
          clear hWR
          go_wp2_with fail
          go_quiet (fail)
          have KD : Kept WR (WR.drewN nq) := (Kept.refl WR).drewN nq
          have B7 := hid_of (B6.out.kept KD)
          have C7 := hid_of (C6.out.trans (Ch.of_kept KD))
          have P7 := hid_of (P6H.out.kept KD)
          have Q7 := hid_of (Q6H.out.kept KD)
          generalize WR.drewN nq = WU at B7 C7 P7 Q7 ⊢
          clear KD pk qk B6 C6 P6H Q6H
          go_wp2_with fail
          go_loopw [95] (fun i wr => ∃ u : Nat, u ≤ n ∧ i = .int .i64 (u : Int) ∧ Kept WU wr) (fun i _ => n - (intOf i).toNat)
          case atStart => exact ⟨0, by omega, rfl, Kept.refl _⟩
          case round =>
            obtain ⟨u, hu, rfl, KU0⟩ := hrel
            have KU := hid_of KU0
            by_cases hgo3 : (u : Int) < (n : Int)
            · have hun : u < n := by omega
              have pu := (P7.out.kept KU0).cell hun
              have qu := (Q7.out.kept KU0).cell hun
              have pk := (P7.out.kept KU0).cell hkn
              have qk := (Q7.out.kept KU0).cell hkn
              rw [HA.out] at pk
              rw [HB.out] at qk
              have hnest := NS.out.nest u k hun hkn
              rw [HA.out, HB.out] at hnest
              generalize p u = pu' at pu hnest
              generalize q u = qu' at qu hnest
              clear KU0
              by_cases c1 : pu' < (a : Int)
              · by_cases c2 : (a : Int) < qu'
                · have c3 := hnest c1 c2
                  have e1 : decide (pu' < (a : Int)) = true := decide_eq_true c1
                  have e2 : decide ((a : Int) < qu') = true := decide_eq_true c2
                  have e3 : decide (qu' < (b : Int)) = false := decide_eq_false (by omega)
                  clear hnest c1 c2 c3
                  go_wp2_with fail
                  go_quiet (fail)
                  have K9 : Hid (Kept WU (wr.drewN nq)) := KU.out.drewN nq
                  go_wp2_with fail
                  go_roundw
                  case rel => exact ⟨u + 1, by omega, by go_num, K9.out⟩
                  case measure => simp [intOf]; omega
                · have e1 : decide (pu' < (a : Int)) = true := decide_eq_true c1
                  have e2 : decide ((a : Int) < qu') = false := decide_eq_false c2
                  clear hnest c1 c2
                  go_wp2_with fail
                  go_quiet (fail)
                  have K9 : Hid (Kept WU (wr.drewN nq)) := KU.out.drewN nq
                  go_wp2_with fail
                  go_roundw
                  case rel => exact ⟨u + 1, by omega, by go_num, K9.out⟩
                  case measure => simp [intOf]; omega
              · have e1 : decide (pu' < (a : Int)) = false := decide_eq_false c1
                clear hnest c1
                go_wp2_with fail
                go_quiet (fail)
                have K9 : Hid (Kept WU (wr.drewN nq)) := KU.out.drewN nq
                go_wp2_with fail
                go_roundw
                case rel => exact ⟨u + 1, by omega, by go_num, K9.out⟩
                case measure => simp [intOf]; omega
            · have B8 := hid_of (B7.out.kept KU0)
              have C8 := hid_of (C7.out.trans (Ch.of_kept KU0))
              clear KU0
              go_wp2_with fail
              go_roundw
              case rel => exact ⟨k + 1, by omega, by go_num, B8.out, C8.out⟩
              case measure => simp [intOf]; omega
    · obtain rfl : k = n := by omega
      have y1 := C4.cell x1 hgw
      have P4H := hid_of P4
      have Q4H := hid_of Q4
      have K4H := hid_of (K3H.out.ch C4 (fun j t => by rw [HGU.out, t]; exact Nat.le_refl _))
      clear B4 C4 P4 Q4
      generalize hWS : wr = WS at *
      clear hWS
      go_wp2_with fail
      go_loopw [12, 134] (fun _ i wr => ∃ j : Nat, j ≤ m ∧ i = .int .i64 (j : Int) ∧ Kept WS wr) (fun _ i _ => m - (intOf i).toNat)
      case atStart => exact ⟨0, by omega, rfl, Kept.refl _⟩
      case round =>
        obtain ⟨j, hj, rfl, K5⟩ := hrel
        by_cases hgo : (j : Int) < (m : Int)
        · obtain ⟨b, off, rfl, hc⟩ := HE2.out.cell (by omega)
          obtain ⟨d1, d2, d3, d4⟩ := hc j (by omega)
          have KW := K4H.out.trans K5
          replace d1 := KW.cell d1
          replace d2 := KW.cell d2
          replace d3 := KW.cell d3
          replace d4 := KW.cell d4
          have hjl : j < es.length := by have := HL.out; omega
          have RG := hrg.out _ (edAt_mem hjl)
          obtain ⟨f, hff⟩ : ∃ f : Nat, (edAt es j).f = (f : Int) := ⟨(edAt es j).f.toNat, by omega⟩
          obtain ⟨t, htt⟩ : ∃ t : Nat, (edAt es j).t = (t : Int) := ⟨(edAt es j).t.toNat, by omega⟩
          have hfn : f < k := by rw [hff] at RG; omega
          have htn : t < k := by rw [htt] at RG; omega
          have PE := NS.out.edge f t hfn htn (mem_outs (edAt_mem hjl) hff htt)
          rw [hff] at d1
          rw [htt] at d2
          generalize (edAt es j).c = ec at d3
          generalize (edAt es j).k = ek at d4
          have hfi : (f : Int) < (k : Int) := by omega
          have hti : (t : Int) < (k : Int) := by omega
          have KE : Kept wr (wr.alloc (Obj.cells #[.int .i64 (f : Int), .int .i64 (t : Int), .int .i64 ec, .int .i64 ek] 42)) := (Kept.refl wr).alloc _
          have e0 : (wr.alloc (Obj.cells #[.int .i64 (f : Int), .int .i64 (t : Int), .int .i64 ec, .int .i64 ek] 42)).cell? ⟨wr.heap.size, 0, none⟩ = some (.int .i64 (f : Int)) := by simp [go_sem]
          have e1 : (wr.alloc (Obj.cells #[.int .i64 (f : Int), .int .i64 (t : Int), .int .i64 ec, .int .i64 ek] 42)).cell? ⟨wr.heap.size, 1, none⟩ = some (.int .i64 (t : Int)) := by simp [go_sem]
          have c1 := ((Q4H.out.kept K5).kept KE).cell hfn
          have c2 := ((P4H.out.kept K5).kept KE).cell htn
          have K6 := hid_of (K5.trans KE)
          clear hc RG hff htt KW
          generalize q f = pf at c1 PE
          generalize p t = pt at c2 PE
          have hle : ¬ pf < pt := by omega
          go_upto_region 31 with fail
          generalize hW9 : wr.alloc (Obj.cells #[.int .i64 (f : Int), .int .i64 (t : Int), .int .i64 ec, .int .i64 ek] 42) = W9 at *
          clear hW9 KE
          go_quiet (fail)
          have K7 : Hid (Kept WS (W9.drewN nq)) := K6.out.drewN nq
          go_wp2_with fail
          go_roundw
          case rel => exact ⟨j + 1, by omega, by go_num, K7.out⟩
          case measure => simp [intOf]; omega
        · have KF := hid_of (KB.out.trans (K4H.out.trans K5))
          clear K5
          go_wp2_with fail
          go_ret
          exact ⟨rfl, KF.out⟩
end Go.Proofs.Ytjheiaegpoppaaa
