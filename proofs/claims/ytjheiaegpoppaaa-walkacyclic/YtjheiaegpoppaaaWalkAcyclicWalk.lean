/- WalkAcyclic: the walk of the law. -/
import Derived.Test.YtjheiaegpoppaaaWkV
namespace Go.Proofs.Ytjheiaegpoppaaa
open Go.RowKit

set_option maxRecDepth 100000 in
set_option maxHeartbeats 4000000 in
theorem walkAcyclicBad (nodes : Int) (ao : Option Addr) (m cap : Nat) (es : List Ed) (w : World) (h : ERow w ao m cap es) (c a : Int) (hf : Hid (faultOf nodes es = (c, a))) (hb : c ≠ 0) :
    Calls Try.prog 7 #[.agg #[.int .i64 nodes, .slice ao m cap]] w fun v w' => v = .returned (.bool true) ∧ Kept w w' := by
  have hnot : ∀ (x : Bool) (w : World), (Op.unary .not (.bool x)).run Try.prog w = .ok (.bool (!x)) w := fun _ _ => rfl
  have KG : Kept w (w.alloc (Obj.cells #[.int .i64 nodes, .slice ao m cap] 24)) := (Kept.refl w).alloc _
  have g0 : (w.alloc (Obj.cells #[.int .i64 nodes, .slice ao m cap] 24)).cell? ⟨w.heap.size, 0, none⟩ = some (.int .i64 nodes) := by simp [go_sem]
  have g1 : (w.alloc (Obj.cells #[.int .i64 nodes, .slice ao m cap] 24)).cell? ⟨w.heap.size, 1, none⟩ = some (.slice ao m cap) := by simp [go_sem]
  have HE := hid_of (h.kept KG)
  have HB := hid_of hb
  have q71 : (c == 71) = false := by have := fault_small hf.out; rw [beq_eq_false_iff_ne]; omega
  have q0 : (c != 0) = true := by simpa using hb
  clear h hb
  go_enter Try.func7, Try.ntmps7
  go_wp2_with fail
  generalize hW0 : w.alloc (Obj.cells #[.int .i64 nodes, .slice ao m cap] 24) = W0 at KG g0 g1 HE ⊢
  clear hW0
  refine (awake_calls W0).mono ?_
  rintro v wa ⟨rfl, K1⟩
  replace g0 := K1.cell g0
  replace g1 := K1.cell g1
  have HE1 := hid_of (HE.out.kept K1)
  have KA := hid_of (KG.trans K1)
  clear K1 KG HE
  go_wp2_with fail
  refine (orderBad_calls nodes ao m cap es wa HE1.out c a hf HB.out).mono ?_
  rintro v wb ⟨rfl, K2⟩
  have KB := hid_of (KA.out.trans K2)
  clear K2 KA HE1 g0 g1
  go_wp2_with fail
  go_ret
  exact ⟨rfl, KB.out⟩

set_option maxRecDepth 100000 in
set_option maxHeartbeats 4000000 in
theorem walkAcyclicNone (n : Nat) (hn : n ≤ 1024) (ao : Option Addr) (m cap : Nat) (es : List Ed) (w : World) (h : ERow w ao m cap es) (hf : Hid (faultOf (n : Int) es = (0, 0))) (hm4 : m ≤ 4096) (hrg : Hid (∀ e ∈ es, 0 ≤ e.f ∧ e.f < (n : Int) ∧ 0 ≤ e.t ∧ e.t < (n : Int))) (N : Nat) (hN : N < n) (hsucc : Hid (∀ k, k < N → ∃ v, nextV es n (ordl es n k) = some v)) (hlen : Hid (∀ k, k ≤ N → (ordl es n k).length = k)) (hend : Hid (nextV es n (ordl es n N) = none)) :
    Calls Try.prog 7 #[.agg #[.int .i64 (n : Int), .slice ao m cap]] w fun v w' => v = .returned (.bool true) ∧ Kept w w' := by
  have hnot : ∀ (x : Bool) (w : World), (Op.unary .not (.bool x)).run Try.prog w = .ok (.bool (!x)) w := fun _ _ => rfl
  have KG : Kept w (w.alloc (Obj.cells #[.int .i64 (n : Int), .slice ao m cap] 24)) := (Kept.refl w).alloc _
  have g0 : (w.alloc (Obj.cells #[.int .i64 (n : Int), .slice ao m cap] 24)).cell? ⟨w.heap.size, 0, none⟩ = some (.int .i64 (n : Int)) := by simp [go_sem]
  have g1 : (w.alloc (Obj.cells #[.int .i64 (n : Int), .slice ao m cap] 24)).cell? ⟨w.heap.size, 1, none⟩ = some (.slice ao m cap) := by simp [go_sem]
  have HE := hid_of (h.kept KG)
  clear h
  go_enter Try.func7, Try.ntmps7
  go_wp2_with fail
  generalize hW0 : w.alloc (Obj.cells #[.int .i64 (n : Int), .slice ao m cap] 24) = W0 at KG g0 g1 HE ⊢
  clear hW0
  refine (awake_calls W0).mono ?_
  rintro v wa ⟨rfl, K1⟩
  replace g0 := K1.cell g0
  replace g1 := K1.cell g1
  have HE1 := hid_of (HE.out.kept K1)
  have KA := hid_of (KG.trans K1)
  clear K1 KG HE
  go_wp2_with fail
  refine (orderN_calls n hn ao m cap es wa HE1.out hf hm4 hrg N hN hsucc hlen hend).mono ?_
  rintro v wb ⟨b, L, cc, cl, rfl, CC, O2, K2⟩
  replace g0 := K2.cell g0
  replace g1 := K2.cell g1
  have HE2 := hid_of (HE1.out.kept K2)
  have KB := hid_of (KA.out.trans K2)
  have J2 := hid_of (JRow.of_owns O2)
  have CH := hid_of CC
  clear O2 K2 HE1 KA CC
  go_wp2_with fail
  refine (circle_calls n hn ao m cap es wb HE2.out hrg (some ⟨b, 0, none⟩) L cc cl CH J2.out).mono ?_
  rintro v we ⟨rfl, K5⟩
  have KE := hid_of (KB.out.trans K5)
  clear K5 KB
  go_wp2_with fail
  go_ret
  exact ⟨rfl, KE.out⟩

set_option maxRecDepth 100000 in
set_option maxHeartbeats 4000000 in
theorem walkAcyclicGood (n : Nat) (hn : n ≤ 1024) (ao : Option Addr) (m cap : Nat) (es : List Ed) (w : World) (h : ERow w ao m cap es) (hf : Hid (faultOf (n : Int) es = (0, 0))) (hm4 : m ≤ 4096) (hrg : Hid (∀ e ∈ es, 0 ≤ e.f ∧ e.f < (n : Int) ∧ 0 ≤ e.t ∧ e.t < (n : Int))) (hsucc : Hid (∀ k, k < n → ∃ v, nextV es n (ordl es n k) = some v)) (hlen : Hid (∀ k, k ≤ n → (ordl es n k).length = k)) :
    Calls Try.prog 7 #[.agg #[.int .i64 (n : Int), .slice ao m cap]] w fun v w' => v = .returned (.bool true) ∧ Kept w w' := by
  have hnot : ∀ (x : Bool) (w : World), (Op.unary .not (.bool x)).run Try.prog w = .ok (.bool (!x)) w := fun _ _ => rfl
  have hmkI : ∀ w : World, (Instr.makeSlice 26 (.int .i64 (n : Int)) (.int .i64 (n : Int))).run Try.prog w = .ok (.slice (some ⟨w.heap.size, 0, none⟩) n n) (w.alloc (.cells (madeCells #[.int .i64 0] n) 3)) :=
    fun w => run_make_row' 26 3 (.int .i64 0) 8 Try.underlying26 infoJ0 rfl .i64 .i64 n (by omega) (by omega) w
  have KG : Kept w (w.alloc (Obj.cells #[.int .i64 (n : Int), .slice ao m cap] 24)) := (Kept.refl w).alloc _
  have g0 : (w.alloc (Obj.cells #[.int .i64 (n : Int), .slice ao m cap] 24)).cell? ⟨w.heap.size, 0, none⟩ = some (.int .i64 (n : Int)) := by simp [go_sem]
  have g1 : (w.alloc (Obj.cells #[.int .i64 (n : Int), .slice ao m cap] 24)).cell? ⟨w.heap.size, 1, none⟩ = some (.slice ao m cap) := by simp [go_sem]
  have HE := hid_of (h.kept KG)
  have HL := hid_of h.len
  have hr := h.room
  have hmx := h.most
  unfold maxLen at hmx
  clear h
  go_enter Try.func7, Try.ntmps7
  go_wp2_with fail
  generalize hW0 : w.alloc (Obj.cells #[.int .i64 (n : Int), .slice ao m cap] 24) = W0 at KG g0 g1 HE ⊢
  clear hW0
  refine (awake_calls W0).mono ?_
  rintro v wa ⟨rfl, K1⟩
  replace g0 := K1.cell g0
  replace g1 := K1.cell g1
  have HE1 := hid_of (HE.out.kept K1)
  have KA := hid_of (KG.trans K1)
  clear K1 KG HE
  go_wp2_with fail
  refine (order_calls n hn ao m cap es wa HE1.out hf hm4 hrg hsucc).mono ?_
  rintro v wb ⟨so, sc, rfl, O2, K2⟩
  replace g0 := K2.cell g0
  replace g1 := K2.cell g1
  have HE2 := hid_of (HE1.out.kept K2)
  have KB := hid_of (KA.out.trans K2)
  have J2 := JRow.of_owns O2
  have hr2 := J2.room
  have hmx2 := J2.most
  unfold maxLen at hmx2
  have JH := hid_of J2
  have qn : ((n : Int) != (n : Int)) = false := by simp
  clear O2 K2 HE1 KA J2
  have I3 := World.rowIs_made wb (.int .i64 0) n 3
  have K3 : Kept wb (wb.alloc (.cells (madeCells #[.int .i64 0] n) 3)) := (Kept.refl wb).alloc _
  have I3H : Hid (IntsAt (wb.alloc (.cells (madeCells #[.int .i64 0] n) 3)) wb.heap.size n (plc (ordl es n n) 0)) := World.rowIs.congr I3 (fun i _ => by simp [plc])
  have K3H := hid_of K3
  clear I3 K3
  go_upto_region 11 with fail
  generalize hW3 : wb.alloc (.cells (madeCells #[.int .i64 0] n) 3) = W3 at I3H K3H ⊢
  clear hW3 hmkI
  obtain ⟨q, hq⟩ : ∃ q, wb.heap.size = q := ⟨_, rfl⟩
  rw [hq] at I3H ⊢
  have HQ := hid_of hq
  clear hq
  go_wp2_with fail
  go_loopw [7, 8, 49] (fun _ _ i wr => ∃ k : Nat, k ≤ n ∧ i = .int .i64 (k : Int) ∧ IntsAt wr q n (plc (ordl es n n) k) ∧ Kept wb wr) (fun _ _ i _ => n - (intOf i).toNat)
  case atStart => exact ⟨0, by omega, rfl, I3H.out, K3H.out⟩
  case round =>
    obtain ⟨k, hk, rfl, I4, K4⟩ := hrel
    clear I3H K3H
    have x0 := K4.cell g0
    by_cases hgo : (k : Int) < (n : Int)
    · obtain ⟨b, off, rfl, hc⟩ := JH.out.cell (by omega)
      have hkn : k < n := by omega
      have c1 := K4.cell (hc k hkn)
      rw [qz_get _ _ (by rw [hlen.out n (Nat.le_refl _)]; exact hkn)] at c1
      obtain ⟨v, hv⟩ : ∃ v, (ordl es n n).getD k 0 = v := ⟨_, rfl⟩
      rw [hv] at c1
      have hvn : v < n := by rw [← hv]; exact (ordl_at hsucc.out hlen.out hkn).1
      have hvi : (v : Int) < (n : Int) := by omega
      have hvj : ¬ (n : Int) ≤ (v : Int) := by omega
      have cv := I4.cell hvn
      have fv := World.rowIs.frozen I4 v
      have e0 := plc_new hsucc.out hlen.out hkn
      rw [hv] at e0
      rw [e0] at cv
      have IN : Hid (IntsAt (wr.setCell ⟨q, v, none⟩ (.int .i64 ((k : Int) + 1))) q n (plc (ordl es n n) (k + 1))) := (IntsAt.set I4 v ((k : Int) + 1)).congr (fun x _ => by
        show Value.int _ _ = .int _ (if x = (ordl es n n).getD k 0 then (k : Int) + 1 else plc (ordl es n n) k x)
        rw [hv])
      have KN : Hid (Kept wb (wr.setCell ⟨q, v, none⟩ (.int .i64 ((k : Int) + 1)))) := K4.setCell (p := ⟨q, v, none⟩) (by rw [HQ.out]; exact Nat.le_refl _) _
      clear hc I4 K4 e0 hv
      go_wp2_with fail
      go_roundw
      case rel => exact ⟨k + 1, by omega, by go_num, IN.out, KN.out⟩
      case measure => simp [intOf]; omega
    · obtain rfl : k = n := by omega
      have x1 := K4.cell g1
      have I4H := hid_of I4
      have K4H := hid_of K4
      clear I4 K4
      generalize hWS : wr = WS at *
      clear hWS
      go_wp2_with fail
      go_loopw [10, 78] (fun _ i wr => ∃ j : Nat, j ≤ m ∧ i = .int .i64 (j : Int) ∧ Kept WS wr) (fun _ i _ => m - (intOf i).toNat)
      case atStart => exact ⟨0, by omega, rfl, Kept.refl _⟩
      case round =>
        obtain ⟨j, hj, rfl, K5⟩ := hrel
        by_cases hgo : (j : Int) < (m : Int)
        · obtain ⟨b, off, rfl, hc⟩ := HE2.out.cell (by omega)
          obtain ⟨d1, d2, d3, d4⟩ := hc j (by omega)
          have KW := K4H.out.trans K5
          replace d1 := KW.cell d1
          replace d2 := KW.cell d2
          replace d3 := KW.cell d3
          replace d4 := KW.cell d4
          have hjl : j < es.length := by have := HL.out; omega
          have RG := hrg.out _ (edAt_mem hjl)
          obtain ⟨f, hff⟩ : ∃ f : Nat, (edAt es j).f = (f : Int) := ⟨(edAt es j).f.toNat, by omega⟩
          obtain ⟨t, htt⟩ : ∃ t : Nat, (edAt es j).t = (t : Int) := ⟨(edAt es j).t.toNat, by omega⟩
          have PE := plc_edge hsucc.out hlen.out hrg.out (edAt_mem hjl) hff htt
          have hfn : f < k := by rw [hff] at RG; omega
          have htn : t < k := by rw [htt] at RG; omega
          rw [hff] at d1
          rw [htt] at d2
          generalize (edAt es j).c = ec at d3
          generalize (edAt es j).k = ek at d4
          have hfi : (f : Int) < (k : Int) := by omega
          have hti : (t : Int) < (k : Int) := by omega
          have KE : Kept wr (wr.alloc (Obj.cells #[.int .i64 (f : Int), .int .i64 (t : Int), .int .i64 ec, .int .i64 ek] 42)) := (Kept.refl wr).alloc _
          have e0 : (wr.alloc (Obj.cells #[.int .i64 (f : Int), .int .i64 (t : Int), .int .i64 ec, .int .i64 ek] 42)).cell? ⟨wr.heap.size, 0, none⟩ = some (.int .i64 (f : Int)) := by simp [go_sem]
          have e1 : (wr.alloc (Obj.cells #[.int .i64 (f : Int), .int .i64 (t : Int), .int .i64 ec, .int .i64 ek] 42)).cell? ⟨wr.heap.size, 1, none⟩ = some (.int .i64 (t : Int)) := by simp [go_sem]
          have I5 := (I4H.out.kept K5).kept KE
          have c1 := I5.cell hfn
          have c2 := I5.cell htn
          have K6 := hid_of (K5.trans KE)
          clear hc RG hff htt KW I5
          generalize plc (ordl es k k) k f = pf at c1 PE
          generalize plc (ordl es k k) k t = pt at c2 PE
          have hle : ¬ pt ≤ pf := by omega
          go_upto_region 21 with fail
          generalize hW9 : wr.alloc (Obj.cells #[.int .i64 (f : Int), .int .i64 (t : Int), .int .i64 ec, .int .i64 ek] 42) = W9 at *
          clear hW9 KE
          go_quiet (fail)
          have K7 : Hid (Kept WS (W9.drewN nq)) := K6.out.drewN nq
          go_wp2_with fail
          go_roundw
          case rel => exact ⟨j + 1, by omega, by go_num, K7.out⟩
          case measure => simp [intOf]; omega
        · have KF := hid_of (KB.out.trans (K4H.out.trans K5))
          clear K5
          go_wp2_with fail
          go_ret
          exact ⟨rfl, KF.out⟩
end Go.Proofs.Ytjheiaegpoppaaa
