/- The circle that is told. -/
import Derived.Test.YtjheiaegpoppaaaWkP
import Derived.Test.YtjheiaegpoppaaaWkS
namespace Go.Proofs.Ytjheiaegpoppaaa
open Go.RowKit

theorem circL_succ (es : List Ed) (O : List Nat) (y i : Nat) : circL es O y (i + 1) = circL es O y i ++ [intoTo es O es.length (itr (backE es O) i y)] := by
  unfold circL
  rw [List.range_succ, List.map_append]
  rfl
theorem circL_len (es : List Ed) (O : List Nat) (y i : Nat) : (circL es O y i).length = i := by simp [circL]

theorem own_form {w : World} {base e : Nat} {v : Value} {n : Nat} {xs : List Value} (h : w.ownsRow base e 1 v n xs) (hn : 0 < n) : ∃ g cap, v = .slice (some ⟨g, 0, none⟩) n cap := by
  rcases h.2 with ⟨rfl, rfl⟩ | ⟨g, cap, cur, rfl, _⟩
  · omega
  · exact ⟨g, cap, rfl⟩
theorem qz_rev (l : List Nat) : (qz l).reverse = qz l.reverse := by simp [qz]

set_option maxRecDepth 100000 in
set_option maxHeartbeats 4000000 in
theorem cw_calls (n : Nat) (hn : n ≤ 1024) (ao : Option Addr) (m cap : Nat) (es : List Ed) (w : World) (h : ERow w ao m cap es) (hrg : Hid (∀ e ∈ es, 0 ≤ e.f ∧ e.f < (n : Int) ∧ 0 ≤ e.t ∧ e.t < (n : Int))) (O : List Nat) (gc : Nat) (hB : BoolsAt w gc n (fun v => O.contains v)) (hS : Hid (Stuck es n O)) :
    Calls Try.prog 34 #[.slice (some ⟨gc, 0, none⟩) n n, .agg #[.int .i64 (n : Int), .slice ao m cap]] w fun r w' => ∃ b L cc c, r = .returned (.slice (some ⟨b, 0, none⟩) L cc) ∧ Circ es c ∧ w'.ownsRow w.heap.size 3 1 (.slice (some ⟨b, 0, none⟩) L cc) L (jvals (qz c)) ∧ Kept w w' := by
  have hnot : ∀ (x : Bool) (w : World), (Op.unary .not (.bool x)).run Try.prog w = .ok (.bool (!x)) w := fun _ _ => rfl
  obtain ⟨i0, hi, hz0, hz1, hz2⟩ := infoJ
  have hmkI : ∀ w : World, (Instr.makeSlice 26 (.int .i64 (n : Int)) (.int .i64 (n : Int))).run Try.prog w = .ok (.slice (some ⟨w.heap.size, 0, none⟩) n n) (w.alloc (.cells (madeCells #[.int .i64 0] n) 3)) :=
    fun w => run_make_row' 26 3 (.int .i64 0) 8 Try.underlying26 infoJ0 rfl .i64 .i64 n (by omega) (by omega) w
  obtain ⟨hy0, hyO⟩ := hS.out.last hrg.out
  have HR := hid_of (hS.out.round hrg.out)
  have HLEN := hid_of h.len
  have hm0 : 0 < m := by
    obtain ⟨v, hv, hO⟩ := hS.out.some
    obtain ⟨e, he, -⟩ := hS.out.inn v hv hO
    rw [h.len]; exact List.length_pos_of_mem he
  have KG : Kept w (w.alloc (Obj.cells #[.int .i64 (n : Int), .slice ao m cap] 24)) := (Kept.refl w).alloc _
  have g0 : (w.alloc (Obj.cells #[.int .i64 (n : Int), .slice ao m cap] 24)).cell? ⟨w.heap.size, 0, none⟩ = some (.int .i64 (n : Int)) := by simp [go_sem]
  have g1 : (w.alloc (Obj.cells #[.int .i64 (n : Int), .slice ao m cap] 24)).cell? ⟨w.heap.size, 1, none⟩ = some (.slice ao m cap) := by simp [go_sem]
  have hr := h.room
  have hmx := h.most
  unfold maxLen at hmx
  have HE := hid_of (h.kept KG)
  have HB := hid_of (hB.kept KG)
  obtain ⟨b, off, rfl, -⟩ := h.cell hm0
  clear h hB
  go_enter Try.func34, Try.ntmps34
  go_upto_region 1 with fail
  generalize hW0 : w.alloc (Obj.cells #[.int .i64 (n : Int), .slice (some ⟨b, off, none⟩) m cap] 24) = W0 at KG g0 g1 HE HB ⊢
  clear hW0
  have KW0 := hid_of KG
  clear KG
  obtain ⟨gi, hgi⟩ : ∃ gi, W0.heap.size = gi := ⟨_, rfl⟩
  have I1 := World.rowIs_made W0 (.int .i64 0) n 3
  have K1 : Kept W0 (W0.alloc (.cells (madeCells #[.int .i64 0] n) 3)) := (Kept.refl W0).alloc _
  have z1 : (W0.alloc (.cells (madeCells #[.int .i64 0] n) 3)).heap.size = gi + 1 := by simp [hgi]
  have I1H : Hid (IntsAt (W0.alloc (.cells (madeCells #[.int .i64 0] n) 3)) gi n (fun x => ((intoTo es O 0 x : Nat) : Int))) := by
    rw [hgi] at I1
    exact World.rowIs.congr I1 (fun i _ => by simp [intoTo])
  have K1H := hid_of K1
  clear I1 K1
  go_upto_region 2 with fail
  generalize hW1 : W0.alloc (.cells (madeCells #[.int .i64 0] n) 3) = W1 at z1 I1H K1H ⊢
  clear hW1 hmkI
  have HGI := hid_of hgi
  have Z1 := hid_of z1
  have j1 := K1H.out.cell g1
  clear hgi z1
  go_wp2_with fail
  go_loopw [6, 17] (fun v i wr => ∃ k : Nat, k ≤ m ∧ i = .int .i64 (k : Int) ∧ v = .int .i64 ((lastTo es O k : Nat) : Int) ∧ IntsAt wr gi n (fun x => ((intoTo es O k x : Nat) : Int)) ∧ Kept W0 wr ∧ gi + 1 ≤ wr.heap.size) (fun _ i _ => m - (intOf i).toNat)
  case atStart => exact ⟨0, by omega, rfl, rfl, I1H.out, K1H.out, by rw [Z1.out]; exact Nat.le_refl _⟩
  case round =>
    obtain ⟨k, hk, rfl, rfl, I2, K2, s2⟩ := hrel
    clear I1H K1H j1
    by_cases hgo : (k : Int) < (m : Int)
    · obtain ⟨b', off', e', hc⟩ := HE.out.cell (by omega)
      obtain ⟨rfl, rfl⟩ : b = b' ∧ off = off' := by simpa using e'
      obtain ⟨d1, d2, d3, d4⟩ := hc k (by omega)
      replace d1 := K2.cell d1
      replace d2 := K2.cell d2
      replace d3 := K2.cell d3
      replace d4 := K2.cell d4
      have hkl : k < es.length := by have := HLEN.out; omega
      have RG := hrg.out _ (edAt_mem hkl)
      obtain ⟨f, hf⟩ : ∃ f : Nat, (edAt es k).f = (f : Int) := ⟨(edAt es k).f.toNat, by omega⟩
      obtain ⟨t, ht⟩ : ∃ t : Nat, (edAt es k).t = (t : Int) := ⟨(edAt es k).t.toNat, by omega⟩
      have hfn : f < n := by rw [hf] at RG; omega
      have htn : t < n := by rw [ht] at RG; omega
      rw [hf] at d1
      rw [ht] at d2
      generalize (edAt es k).c = ec at d3
      generalize (edAt es k).k = ek at d4
      have hfi : (f : Int) < (n : Int) := by omega
      have hti : (t : Int) < (n : Int) := by omega
      have KE : Kept wr (wr.alloc (Obj.cells #[.int .i64 (f : Int), .int .i64 (t : Int), .int .i64 ec, .int .i64 ek] 42)) := (Kept.refl wr).alloc _
      have e0 : (wr.alloc (Obj.cells #[.int .i64 (f : Int), .int .i64 (t : Int), .int .i64 ec, .int .i64 ek] 42)).cell? ⟨wr.heap.size, 0, none⟩ = some (.int .i64 (f : Int)) := by simp [go_sem]
      have e1 : (wr.alloc (Obj.cells #[.int .i64 (f : Int), .int .i64 (t : Int), .int .i64 ec, .int .i64 ek] 42)).cell? ⟨wr.heap.size, 1, none⟩ = some (.int .i64 (t : Int)) := by simp [go_sem]
      have I3 := I2.kept KE
      have ix := I3.cell htn
      have fx := World.rowIs.frozen I3 t
      have bf := ((HB.out.kept K2).kept KE).cell hfn
      have s3 : gi + 1 ≤ (wr.alloc (Obj.cells #[.int .i64 (f : Int), .int .i64 (t : Int), .int .i64 ec, .int .i64 ek] 42)).heap.size := Nat.le_trans s2 KE.size
      have K3 := hid_of (K2.trans KE)
      have hne : ¬ wr.heap.size = gi := by omega
      have I3H := hid_of I3
      have HF := hid_of hf
      have HT := hid_of ht
      clear hc e' RG hf ht I2 K2 s2 I3
      cases hO : O.contains f with
      | true =>
        rw [hO] at bf
        have EL : Hid (lastTo es O (k + 1) = lastTo es O k) := by
          show (if O.contains (edAt es k).f.toNat = false then (edAt es k).t.toNat else lastTo es O k) = lastTo es O k
          rw [HF.out, Int.toNat_natCast, hO, if_neg (by simp)]
        have EI : Hid (∀ x, intoTo es O (k + 1) x = intoTo es O k x) := fun x => by
          show (if O.contains (edAt es k).f.toNat = false ∧ (edAt es k).t.toNat = x then k else intoTo es O k x) = intoTo es O k x
          rw [HF.out, Int.toNat_natCast, hO, if_neg (by simp)]
        go_upto_region 6 with fail
        generalize hW9 : wr.alloc (Obj.cells #[.int .i64 (f : Int), .int .i64 (t : Int), .int .i64 ec, .int .i64 ek] 42) = W9 at *
        clear hW9 KE
        go_wp2_with fail
        go_roundw
        case rel => exact ⟨k + 1, by omega, by go_num, by rw [EL.out], World.rowIs.congr I3H.out (fun x _ => by dsimp only; rw [EI.out x]), K3.out, s3⟩
        case measure => simp [intOf]; omega
      | false =>
        rw [hO] at bf
        have EL : Hid (lastTo es O (k + 1) = t) := by
          show (if O.contains (edAt es k).f.toNat = false then (edAt es k).t.toNat else lastTo es O k) = t
          rw [HF.out, Int.toNat_natCast, hO, if_pos rfl, HT.out, Int.toNat_natCast]
        have EI : Hid (∀ x, intoTo es O (k + 1) x = if x = t then k else intoTo es O k x) := fun x => by
          show (if O.contains (edAt es k).f.toNat = false ∧ (edAt es k).t.toNat = x then k else intoTo es O k x) = _
          rw [HF.out, Int.toNat_natCast, hO, HT.out, Int.toNat_natCast]
          by_cases e : x = t
          · subst e; rw [if_pos ⟨rfl, rfl⟩, if_pos rfl]
          · rw [if_neg (fun c => e c.2.symm), if_neg e]
        go_upto_region 6 with fail
        generalize hW9 : wr.alloc (Obj.cells #[.int .i64 (f : Int), .int .i64 (t : Int), .int .i64 ec, .int .i64 ek] 42) = W9 at *
        clear hW9 KE
        have IN : Hid (IntsAt (W9.setCell ⟨gi, t, none⟩ (.int .i64 (k : Int))) gi n (fun x => ((intoTo es O (k + 1) x : Nat) : Int))) :=
          (IntsAt.set I3H.out t (k : Int)).congr (fun x _ => by
            dsimp only
            rw [EI.out x]
            by_cases e : x = t
            · rw [if_pos e, if_pos e]
            · rw [if_neg e, if_neg e])
        have KN : Hid (Kept W0 (W9.setCell ⟨gi, t, none⟩ (.int .i64 (k : Int)))) := K3.out.setCell (p := ⟨gi, t, none⟩) (by rw [HGI.out]; exact Nat.le_refl _) _
        have e1' : (W9.setCell ⟨gi, t, none⟩ (.int .i64 (k : Int))).cell? ⟨wr.heap.size, 1, none⟩ = some (.int .i64 (t : Int)) := by
          exact ((Ch.refl (fun k => k = gi) W9).setCell (F := fun k => k = gi) (p := ⟨gi, t, none⟩) rfl _).cell e1 hne
        go_wp2_with fail
        go_roundw
        case rel => exact ⟨k + 1, by omega, by go_num, by rw [EL.out], IN.out, KN.out, by simpa using s3⟩
        case measure => simp [intOf]; omega
    · obtain rfl : k = m := by omega
      have ek : k = es.length := HLEN.out
      have I2H : Hid (IntsAt wr gi n (fun x => ((intoTo es O es.length x : Nat) : Int))) := by rw [ek] at I2; exact I2
      have HY : Hid (lastTo es O k = lastTo es O es.length) := by show _ = _; rw [ek]
      have K2H := hid_of K2
      have hwr1 : gi + 1 ≤ wr.heap.size := s2
      have j0 := K2.cell g0
      have j1 := K2.cell g1
      obtain ⟨b', off', e', hc⟩ := HE.out.cell (by omega)
      obtain ⟨rfl, rfl⟩ : b = b' ∧ off = off' := by simpa using e'
      have HC : Hid (∀ x, x < k → wr.cell? ⟨b, off + x * 4, none⟩ = some (.int .i64 (edAt es x).f)) := fun x hx => K2.cell (hc x hx).1
      have BK : Hid (∀ j, ∃ x v, intoTo es O es.length (itr (backE es O) j (lastTo es O es.length)) = x ∧ x < k ∧ itr (backE es O) j (lastTo es O es.length) = v ∧ v < n ∧ (edAt es x).f = ((itr (backE es O) (j + 1) (lastTo es O es.length) : Nat) : Int)) := fun j => by
        have hit := hS.out.itr hrg.out hy0 hyO j
        have hb := hS.out.back hrg.out hit.1 hit.2
        exact ⟨_, _, rfl, by rw [ek]; exact hb.1, rfl, hit.1, hb.2.2.1⟩
      rw [HY.out]
      obtain ⟨y0, hy⟩ : ∃ y0, lastTo es O es.length = y0 := ⟨_, rfl⟩
      rw [hy] at BK HR ⊢
      have HYY := hid_of hy
      clear I2 K2 s2 hc e' ek hy hy0 hyO hgo hk
      generalize hWS : wr = WS at *
      clear hWS
      go_wp2_with fail
      go_loopw [6, 38] (fun v i wr => ∃ j : Nat, j ≤ n ∧ i = .int .i64 (j : Int) ∧ v = .int .i64 ((itr (backE es O) j y0 : Nat) : Int) ∧ Kept WS wr) (fun _ i _ => n - (intOf i).toNat)
      case atStart => exact ⟨0, by omega, rfl, rfl, Kept.refl _⟩
      case round =>
        obtain ⟨j, hj, rfl, rfl, K3⟩ := hrel
        by_cases hgo : (j : Int) < (n : Int)
        · obtain ⟨x, v, hx, hxm, hv, hvn, hfr⟩ := BK.out j
          rw [hv]
          have c1 := K3.cell (I2H.out.cell hvn)
          rw [← hv, hx] at c1
          rw [hv] at c1
          have c2 := K3.cell (HC.out x hxm)
          rw [hfr] at c2
          have c3 := K3.cell j1
          have hxi : (x : Int) < (k : Int) := by omega
          have hvi : (v : Int) < (n : Int) := by omega
          have K3H := hid_of K3
          obtain ⟨nx, hnx⟩ : ∃ nx, itr (backE es O) (j + 1) y0 = nx := ⟨_, rfl⟩
          rw [hnx] at c2
          have HNX := hid_of hnx
          clear hx hv hfr K3 hnx
          go_wp2_with fail
          go_quiet (fail)
          have KN : Hid (Kept WS (wr.drewN nq)) := K3H.out.drewN nq
          go_wp2_with fail
          go_roundw
          case rel => exact ⟨j + 1, by omega, by go_num, by rw [HNX.out], KN.out⟩
          case measure => simp [intOf]; omega
        · obtain rfl : j = n := by omega
          obtain ⟨L, hL0, hLn, hLy, hLm⟩ := HR.out
          obtain ⟨y, hy⟩ : ∃ y, itr (backE es O) j y0 = y := ⟨_, rfl⟩
          have BY : Hid (∀ i, ∃ x v, intoTo es O es.length (itr (backE es O) i y) = x ∧ x < k ∧ itr (backE es O) i y = v ∧ v < j ∧ (edAt es x).f = ((itr (backE es O) (i + 1) y : Nat) : Int)) := fun i => by
            have := BK.out (i + j)
            rw [show i + j + 1 = (i + 1) + j by omega, itr_add, itr_add, hy] at this
            exact this
          rw [hy] at hLy hLm ⊢
          have hyn : y < j := by obtain ⟨_, v, _, _, h1, h2, _⟩ := BY.out 0; rw [← h1] at h2; exact h2
          have hyO : y ∉ O := by rw [← hy]; exact (hS.out.itr hrg.out (by have := hS.out.last hrg.out; rw [HYY.out] at this; exact this.1) (by have := hS.out.last hrg.out; rw [HYY.out] at this; exact this.2) j).2
          have HCIRC := hid_of (hS.out.circ hrg.out hyn hyO hL0 hLy hLm)
          have HLY := hid_of hLy
          have HLM := hid_of hLm
          have HY0 := hid_of hyO
          clear hLy hLm hyO hy
          obtain ⟨x0, v0, hx0, hxm0, hv0, hvn0, hfr0⟩ := BY.out 0
          have hv00 : y = v0 := hv0
          subst hv00
          have hx00 : intoTo es O es.length y = x0 := hx0
          have c1 := K3.cell (I2H.out.cell hyn)
          rw [hx00] at c1
          have hyi : (y : Int) < (j : Int) := by omega
          have KL : Kept wr (wr.alloc (Obj.cells #[.int .i64 (x0 : Int)] 3)) := (Kept.refl wr).alloc _
          have OL : (wr.alloc (Obj.cells #[.int .i64 (x0 : Int)] 3)).ownsRow (gi + 1) 3 1 (.slice (some ⟨wr.heap.size, 0, none⟩) 1 1) 1 (jvals (qz (circL es O y 1))) := by
            have := World.ownsRow_lit (base := gi + 1) (e := 3) (size := 1) wr #[.int .i64 (x0 : Int)] 1 (Nat.le_trans hwr1 K3.size) (by unfold maxLen; omega) rfl
            have e : circL es O y 1 = [x0] := by rw [circL_succ]; show [] ++ [intoTo es O es.length y] = _; rw [hx00]; rfl
            rw [e]
            exact this
          have CL : Ch (fun k => gi + 1 ≤ k) WS (wr.alloc (Obj.cells #[.int .i64 (x0 : Int)] 3)) := Ch.of_kept (K3.trans KL)
          have c2 := (K3.trans KL).cell (HC.out x0 hxm0)
          rw [hfr0] at c2
          have c3 := (K3.trans KL).cell j1
          have c4 := KL.cell c1
          obtain ⟨u1, hu1⟩ : ∃ u1, itr (backE es O) (0 + 1) y = u1 := ⟨_, rfl⟩
          rw [hu1] at c2
          have HU1 := hid_of hu1
          have OLH := hid_of OL
          have CLH := hid_of CL
          have hxi0 : (x0 : Int) < (k : Int) := by omega
          have hbgi : b < gi := by
            obtain ⟨b', off', e', hc⟩ := HE.out.cell (by omega)
            obtain ⟨rfl, rfl⟩ : b = b' ∧ off = off' := by simpa using e'
            have := lt_cell (hc 0 (by omega)).1
            have := HGI.out
            simp only at *
            omega
          have hwgi : w.heap.size < gi := by have := lt_cell g0; have := HGI.out; simp only at *; omega
          clear hx0 hv0 hfr0 OL CL hu1 hx00 K3
          go_upto_region 15 with fail
          generalize hW5 : wr.alloc (Obj.cells #[.int .i64 (x0 : Int)] 3) = W5 at *
          clear hW5 KL
          generalize hgb : wr.heap.size = gb at *
          clear hgb
          go_quiet (fail)
          have KQ : Kept W5 (W5.drewN nq) := (Kept.refl W5).drewN nq
          have OQ := hid_of (ownsK OLH.out KQ)
          have CQ := hid_of (CLH.out.trans (.of_kept KQ))
          generalize W5.drewN nq = W6 at OQ CQ ⊢
          clear KQ OLH CLH c1 c2 c3 c4
          go_wp2_with fail
          go_loopg [9, 10] (L - 1) (fun gk sv u wr => ∃ i, 1 ≤ i ∧ i + gk = L ∧ u = .int .i64 ((itr (backE es O) i y : Nat) : Int) ∧ wr.ownsRow (gi + 1) 3 1 sv i (jvals (qz (circL es O y i))) ∧ Ch (fun k => gi + 1 ≤ k) WS wr)
          case atStart => exact ⟨1, by omega, by omega, by rw [← HU1.out], OQ.out, CQ.out⟩
          case round =>
            obtain ⟨i, hi1, hig, rfl, OI, CI⟩ := hrel
            clear OQ CQ
            obtain ⟨g, cc, rfl⟩ := own_form OI (by omega)
            by_cases hend : i = L
            · subst hend
              rw [HLY.out]
              have qq : ((y : Int) != (y : Int)) = false := by simp
              have RV := hid_of (srev_calls g (gi + 1) cc i (qz (circL es O y i)) wr OI (by omega))
              have hgg := (OI.lt g rfl).1
              have CIH := hid_of CI
              clear OI CI
              go_wp2_with fail
              refine RV.out.mono ?_
              rintro r wz ⟨rfl, OZ, CZ⟩
              have FK : Hid (Kept w wz) := KW0.out.trans ((K2H.out.ch CIH.out (fun k t => by rw [HGI.out]; omega)).ch CZ (fun k t => by rw [HGI.out, t]; omega))
              have FO : Hid (wz.ownsRow w.heap.size 3 1 (.slice (some ⟨g, 0, none⟩) i cc) i (jvals (qz (circL es O y i).reverse))) := by
                rw [qz_rev] at OZ
                exact World.ownsRow.mono OZ (by omega)
              clear OZ CZ
              go_wp2_with fail
              go_ret
              exact ⟨g, i, cc, _, rfl, HCIRC.out, FO.out, FK.out⟩
            · obtain ⟨x, v, hx, hxm, hv, hvn, hfr⟩ := BY.out i
              have hne : v ≠ y := by rw [← hv]; exact HLM.out i (by omega) (by omega)
              have qq : ((v : Int) != (y : Int)) = true := by rw [bne_iff_ne]; omega
              rw [hv]
              have IA := hid_of (I2H.out.ch CI (by omega))
              have c1 := CI.cell (I2H.out.cell hvn) (by omega)
              rw [← hv, hx] at c1
              rw [hv] at c1
              have hxi : (x : Int) < (k : Int) := by omega
              have hvi : (v : Int) < (j : Int) := by omega
              have SU : Hid (circL es O y (i + 1) = circL es O y i ++ [x]) := by show _ = _; rw [circL_succ, hx]
              have HFR := hid_of hfr
              have CIH := hid_of CI
              have OIH := hid_of OI
              have hir := (JRow.of_owns OI).room
              have hws : gi + 1 ≤ wr.heap.size := Nat.le_trans hwr1 CI.size
              have NW := hid_of (cell_newj wr 3 (.int .i64 (x : Int)))
              have HM := hid_of (World.ownsRow.alloc OI (Obj.cells #[.int .i64 (x : Int)] 3))
              clear hx hv hfr OI CI
              go_wp2_with (at_builtin; refine wpList_append_own _ rfl _ _ 26 rfl (gi + 1) 3 i0 (.int .i64 0) 1 8 Try.underlying26 hi hz0 hz1 hz2 rfl (by decide) _ _ _ rfl HM.out ⟨wr.heap.size, 0, none⟩ 1 1 [.int .i64 (x : Int)] rfl rfl NW.out (by intro u hu; simp at hu; subst hu; rfl) (by unfold maxLen; omega) (by omega) (by simp; omega) ?_)
              intro u' w4 hown hgrow _
              have K5 : Kept wr (wr.alloc (Obj.cells #[.int .i64 (x : Int)] 3)) := (Kept.refl wr).alloc _
              have CG : Ch (fun k => gi + 1 ≤ k) wr w4 := (Ch.of_kept K5).trans (Ch.of_grown hgrow (fun kk e => (OIH.out.lt kk e).1))
              have C4 := CIH.out.trans CG
              have d1 := CG.cell c1 (by omega)
              have d2 := C4.cell (HC.out x hxm) (by omega)
              rw [HFR.out] at d2
              have d3 := C4.cell j1 (by omega)
              obtain ⟨un, hun⟩ : ∃ un, itr (backE es O) (i + 1) y = un := ⟨_, rfl⟩
              rw [hun] at d2
              have HUN := hid_of hun
              have O4 : Hid (w4.ownsRow (gi + 1) 3 1 u' (i + 1) (jvals (qz (circL es O y (i + 1))))) := by
                rw [SU.out, qz_snoc, ← jvals_snoc]; exact hown
              have C4H := hid_of C4
              clear hown hgrow CG K5 HM NW c1 C4 hun OIH CIH IA
              go_wp2_with fail
              go_quiet (fail)
              have KQ : Kept w4 (w4.drewN nq) := (Kept.refl w4).drewN nq
              have OQ := hid_of (ownsK O4.out KQ)
              have CQ := hid_of (C4H.out.trans (.of_kept KQ))
              generalize w4.drewN nq = W7 at OQ CQ ⊢
              clear KQ O4 C4H d1 d2 d3
              go_wp2_with fail
              go_roundg (gk - 1)
              case measure => omega
              case rel => exact ⟨i + 1, by omega, by omega, by rw [HUN.out], OQ.out, CQ.out⟩
end Go.Proofs.Ytjheiaegpoppaaa
