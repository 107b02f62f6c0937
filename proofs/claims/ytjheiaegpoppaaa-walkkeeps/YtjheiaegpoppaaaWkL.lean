/- The document's Levels. -/
import Derived.Test.YtjheiaegpoppaaaWkK
namespace Go.Proofs.Ytjheiaegpoppaaa
open Go.RowKit

set_option maxRecDepth 100000 in
set_option maxHeartbeats 4000000 in
theorem levelsRBad_calls (nodes : Int) (ao : Option Addr) (m cap : Nat) (es : List Ed) (w : World) (h : ERow w ao m cap es) (c a : Int) (hf : Hid (faultOf nodes es = (c, a))) (s : Int) (hb : c ≠ 0 ∨ s < 0 ∨ nodes ≤ s) (cc : Int) (hcc : Hid (cc = if c = 0 then 30 else c)) :
    Calls Try.prog 26 #[.agg #[.int .i64 nodes, .slice ao m cap], .int .i64 s] w fun r w' => r = .returned (.tuple #[.slice none 0 0, .int .i64 cc]) ∧ Kept w w' := by
  have KG : Kept w (w.alloc (Obj.cells #[.int .i64 nodes, .slice ao m cap] 24)) := (Kept.refl w).alloc _
  have g0 : (w.alloc (Obj.cells #[.int .i64 nodes, .slice ao m cap] 24)).cell? ⟨w.heap.size, 0, none⟩ = some (.int .i64 nodes) := by simp [go_sem]
  have g1 : (w.alloc (Obj.cells #[.int .i64 nodes, .slice ao m cap] 24)).cell? ⟨w.heap.size, 1, none⟩ = some (.slice ao m cap) := by simp [go_sem]
  have HE := hid_of (h.kept KG)
  have hw : Hid (cc = if c = 0 then (if s < 0 ∨ nodes ≤ s then 30 else 0) else c) := by
    refine hcc.out.trans ?_
    by_cases e : c = 0
    · have hb' : s < 0 ∨ nodes ≤ s := by
        rcases hb with t | t
        · exact absurd e t
        · exact t
      rw [if_pos e, if_pos e, if_pos hb']
    · rw [if_neg e, if_neg e]
  have hq : (cc != 0) = true := by
    rw [hcc.out]
    by_cases e : c = 0
    · simp [e]
    · simp [e]
  clear h hb
  go_enter Try.func26, Try.ntmps26
  go_wp2_with fail
  generalize hW0 : w.alloc (Obj.cells #[.int .i64 nodes, .slice ao m cap] 24) = W0 at KG g0 g1 HE ⊢
  clear hW0
  refine (wrongR_calls nodes ao m cap es W0 HE.out c a hf s cc hw).mono ?_
  rintro v wa ⟨rfl, K1⟩
  have KA := hid_of (KG.trans K1)
  clear K1 KG HE g1 g0
  go_wp2_with fail
  go_ret2
  exact ⟨rfl, KA.out⟩

set_option maxRecDepth 100000 in
set_option maxHeartbeats 4000000 in
theorem levelsR_calls (n : Nat) (hn : n ≤ 1024) (ao : Option Addr) (m cap : Nat) (es : List Ed) (w : World) (h : ERow w ao m cap es) (hf : Hid (faultOf (n : Int) es = (0, 0))) (hrg : Hid (∀ e ∈ es, 0 ≤ e.f ∧ e.f < (n : Int) ∧ 0 ≤ e.t ∧ e.t < (n : Int))) (s : Nat) (hs : s < n) (lv : Nat → Int) (LS : Hid (Levs es n s lv)) :
    Calls Try.prog 26 #[.agg #[.int .i64 (n : Int), .slice ao m cap], .int .i64 (s : Int)] w fun r w' => ∃ g, r = .returned (.tuple #[.slice (some ⟨g, 0, none⟩) n n, .int .i64 0]) ∧ IntsAt w' g n lv ∧ Kept w w' := by
  have hmkI : ∀ w : World, (Instr.makeSlice 26 (.int .i64 (n : Int)) (.int .i64 (n : Int))).run Try.prog w = .ok (.slice (some ⟨w.heap.size, 0, none⟩) n n) (w.alloc (.cells (madeCells #[.int .i64 0] n) 3)) :=
    fun w => run_make_row' 26 3 (.int .i64 0) 8 Try.underlying26 infoJ0 rfl .i64 .i64 n (by omega) (by omega) w
  have KG : Kept w (w.alloc (Obj.cells #[.int .i64 (n : Int), .slice ao m cap] 24)) := (Kept.refl w).alloc _
  have g0 : (w.alloc (Obj.cells #[.int .i64 (n : Int), .slice ao m cap] 24)).cell? ⟨w.heap.size, 0, none⟩ = some (.int .i64 (n : Int)) := by simp [go_sem]
  have g1 : (w.alloc (Obj.cells #[.int .i64 (n : Int), .slice ao m cap] 24)).cell? ⟨w.heap.size, 1, none⟩ = some (.slice ao m cap) := by simp [go_sem]
  have HE := hid_of (h.kept KG)
  have HL := hid_of h.len
  have hr := h.room
  have hmx := h.most
  unfold maxLen at hmx
  have hsi : (s : Int) < (n : Int) := by omega
  have hw : Hid ((0 : Int) = if (0 : Int) = 0 then (if (s : Int) < 0 ∨ (n : Int) ≤ (s : Int) then 30 else 0) else 0) := by
    show (0 : Int) = if (0 : Int) = 0 then (if (s : Int) < 0 ∨ (n : Int) ≤ (s : Int) then 30 else 0) else 0
    rw [if_pos rfl, if_neg (by omega)]
  clear h
  go_enter Try.func26, Try.ntmps26
  go_wp2_with fail
  generalize hW0 : w.alloc (Obj.cells #[.int .i64 (n : Int), .slice ao m cap] 24) = W0 at KG g0 g1 HE ⊢
  clear hW0
  refine (wrongR_calls (n : Int) ao m cap es W0 HE.out 0 0 hf (s : Int) 0 hw).mono ?_
  rintro v wb ⟨rfl, K1⟩
  replace g0 := K1.cell g0
  replace g1 := K1.cell g1
  have HE2 := hid_of (HE.out.kept K1)
  have KB := hid_of (KG.trans K1)
  clear K1 KG HE hw
  have B3 := World.rowIs_made wb (.int .i64 0) n 3
  have K3 : Kept wb (wb.alloc (.cells (madeCells #[.int .i64 0] n) 3)) := (Kept.refl wb).alloc _
  have B3H : Hid (IntsAt (wb.alloc (.cells (madeCells #[.int .i64 0] n) 3)) wb.heap.size n (fun j => if j < 0 then -1 else 0)) := World.rowIs.congr B3 (fun i _ => by simp)
  have K3H := hid_of K3
  clear B3
  go_upto_region 5 with fail
  generalize hW3 : wb.alloc (.cells (madeCells #[.int .i64 0] n) 3) = W3 at K3 B3H K3H ⊢
  clear hW3 hmkI K3
  obtain ⟨q, hq⟩ : ∃ q, wb.heap.size = q := ⟨_, rfl⟩
  have HQ := hid_of hq
  rw [hq] at B3H ⊢
  clear hq
  go_wp2_with fail
  go_loopw [8] (fun i wr => ∃ k : Nat, k ≤ n ∧ i = .int .i64 (k : Int) ∧ IntsAt wr q n (fun j => if j < k then -1 else 0) ∧ Kept wb wr) (fun i _ => n - (intOf i).toNat)
  case atStart => exact ⟨0, by omega, rfl, B3H.out, K3H.out⟩
  case round =>
    obtain ⟨k, hk, rfl, BR, K⟩ := hrel
    clear B3H K3H
    have x0 := K.cell g0
    by_cases hgo : (k : Int) < (n : Int)
    · have hkn : k < n := by omega
      have ck := BR.cell hkn
      have fk := World.rowIs.frozen BR k
      have BN : Hid (IntsAt (wr.setCell ⟨q, k, none⟩ (.int .i64 (-1))) q n (fun j => if j < k + 1 then -1 else 0)) := (IntsAt.set BR k (-1)).congr (fun v _ => by
        by_cases e : v = k
        · simp [e]
        · by_cases e2 : v < k
          · simp [e, e2, show v < k + 1 by omega]
          · simp [e, e2, show ¬ v < k + 1 by omega])
      have KN : Hid (Kept wb (wr.setCell ⟨q, k, none⟩ (.int .i64 (-1)))) := K.setCell (p := ⟨q, k, none⟩) (by rw [HQ.out]; exact Nat.le_refl _) _
      clear BR K
      go_wp2_with fail
      go_roundw
      case rel => exact ⟨k + 1, by omega, by go_num, BN.out, KN.out⟩
      case measure => simp [intOf]; omega
    · obtain rfl : k = n := by omega
      have cs := BR.cell hs
      have fs := World.rowIs.frozen BR s
      have BN : Hid (IntsAt (wr.setCell ⟨q, s, none⟩ (.int .i64 0)) q k (fun j => if j = s then 0 else -1)) := (IntsAt.set BR s 0).congr (fun v hv => by
        by_cases e : v = s
        · simp [e]
        · simp [e, hv])
      have KN : Hid (Kept wb (wr.setCell ⟨q, s, none⟩ (.int .i64 0))) := K.setCell (p := ⟨q, s, none⟩) (by rw [HQ.out]; exact Nat.le_refl _) _
      clear BR K
      go_upto_region 10 with fail
      generalize hW6 : wr.setCell ⟨q, s, none⟩ (.int .i64 0) = W6 at BN KN ⊢
      clear hW6 cs fs x0
      go_wp2_with fail
      go_loopw [9] (fun i wr => ∃ d : Nat, d ≤ k ∧ i = .int .i64 (d : Int) ∧ (∃ f, IntsAt wr q k f ∧ DIn es k lv d 0 f) ∧ Kept wb wr) (fun i _ => k - (intOf i).toNat)
      case atStart => exact ⟨0, by omega, rfl, ⟨_, BN.out, DIn.start LS.out⟩, KN.out⟩
      case round =>
        obtain ⟨d, hd, rfl, ⟨f0, BR, DR⟩, K⟩ := hrel
        clear BN KN
        have x0 := K.cell g0
        have x1 := K.cell g1
        by_cases hgo2 : (d : Int) < (k : Int)
        · have BRH := hid_of BR
          have DRH := hid_of DR
          have KH := hid_of K
          clear BR DR K
          go_wp2_with fail
          go_loopw [10, 11] (fun i _ wr => ∃ j : Nat, j ≤ m ∧ i = .int .i64 (j : Int) ∧ (∃ f, IntsAt wr q k f ∧ DIn es k lv d j f) ∧ Kept wb wr) (fun i _ _ => m - (intOf i).toNat)
          case atStart => exact ⟨0, by omega, rfl, ⟨_, BRH.out, DRH.out⟩, KH.out⟩
          case round =>
            obtain ⟨j, hj, rfl, ⟨f, BS, DS⟩, K2⟩ := hrel
            clear BRH DRH KH x0 x1
            have x1 := K2.cell g1
            by_cases hgo3 : (j : Int) < (m : Int)
            · obtain ⟨b, off, rfl, hc⟩ := HE2.out.cell (by omega)
              obtain ⟨d1, d2, d3, d4⟩ := hc j (by omega)
              replace d1 := K2.cell d1
              replace d2 := K2.cell d2
              replace d3 := K2.cell d3
              replace d4 := K2.cell d4
              clear hc
              have hkl : j < es.length := by have := HL.out; omega
              have hmem : edAt es j ∈ es := by
                have : edAt es j = es[j] := by simp [edAt, List.getD, hkl]
                rw [this]; exact List.getElem_mem hkl
              have RG := hrg.out _ hmem
              obtain ⟨x, hfe⟩ : ∃ f : Nat, (edAt es j).f = (f : Int) := ⟨(edAt es j).f.toNat, by omega⟩
              obtain ⟨y, hte⟩ : ∃ t : Nat, (edAt es j).t = (t : Int) := ⟨(edAt es j).t.toNat, by omega⟩
              rw [hfe, hte] at RG
              have hfn : x < k := by omega
              have htn : y < k := by omega
              have hfi : (x : Int) < (k : Int) := by omega
              have hti : (y : Int) < (k : Int) := by omega
              have SY : Hid (f x = (d : Int) → f y < 0 → DIn es k lv d (j + 1) (fun j => if j = y then (d : Int) + 1 else f j)) := fun u v => DS.set LS.out hfe hte hmem hfn htn u v
              have SN : Hid (¬ (f x = (d : Int) ∧ f y < 0) → DIn es k lv d (j + 1) f) := fun u => DS.keep hfe hte hfn htn u
              rw [hfe] at d1
              rw [hte] at d2
              generalize (edAt es j).c = ec at d3
              generalize (edAt es j).k = ek at d4
              have KE : Kept wr (wr.alloc (Obj.cells #[.int .i64 (x : Int), .int .i64 (y : Int), .int .i64 ec, .int .i64 ek] 42)) := (Kept.refl wr).alloc _
              have e0 : (wr.alloc (Obj.cells #[.int .i64 (x : Int), .int .i64 (y : Int), .int .i64 ec, .int .i64 ek] 42)).cell? ⟨wr.heap.size, 0, none⟩ = some (.int .i64 (x : Int)) := by simp [go_sem]
              have e1 : (wr.alloc (Obj.cells #[.int .i64 (x : Int), .int .i64 (y : Int), .int .i64 ec, .int .i64 ek] 42)).cell? ⟨wr.heap.size, 1, none⟩ = some (.int .i64 (y : Int)) := by simp [go_sem]
              have cf := KE.cell (BS.cell hfn)
              have ct := KE.cell (BS.cell htn)
              have BW := hid_of (BS.kept KE)
              have KW := hid_of (K2.trans KE)
              clear hmem RG hfe hte BS DS
              go_upto_region 17 with fail
              generalize hW4 : wr.alloc (Obj.cells #[.int .i64 (x : Int), .int .i64 (y : Int), .int .i64 ec, .int .i64 ek] 42) = W4 at KE e0 e1 cf ct BW KW ⊢
              clear hW4 KE d1 d2 d3 d4 K2 x1
              obtain ⟨lf, hlf⟩ : ∃ z, f x = z := ⟨_, rfl⟩
              obtain ⟨lt, hlt⟩ : ∃ z, f y = z := ⟨_, rfl⟩
              rw [hlf] at cf SY SN
              rw [hlt] at ct SY SN
              clear hlf hlt
              have fy := World.rowIs.frozen BW.out y
              by_cases q1 : lf = (d : Int)
              · subst q1
                by_cases q2 : lt < 0
                · have DN := hid_of (SY.out rfl q2)
                  have BN : Hid (IntsAt (W4.setCell ⟨q, y, none⟩ (.int .i64 ((d : Int) + 1))) q k (fun j => if j = y then (d : Int) + 1 else f j)) := IntsAt.set BW.out y _
                  have KN : Hid (Kept wb (W4.setCell ⟨q, y, none⟩ (.int .i64 ((d : Int) + 1)))) := KW.out.setCell (p := ⟨q, y, none⟩) (by rw [HQ.out]; exact Nat.le_refl _) _
                  have hwr : IntKind.i64.wrap ((d : Int) + 1) = (d : Int) + 1 := by rw [IntKind.wrap_i64]; first | omega | (unfold wrap64; omega)
                  clear SY SN BW KW
                  go_wp2_with fail
                  go_roundw
                  case rel => exact ⟨j + 1, by omega, by go_num, ⟨_, BN.out, DN.out⟩, KN.out⟩
                  case measure => simp [intOf]; omega
                · have DN := hid_of (SN.out (fun t => q2 t.2))
                  clear SY SN
                  go_wp2_with fail
                  go_roundw
                  case rel => exact ⟨j + 1, by omega, by go_num, ⟨_, BW.out, DN.out⟩, KW.out⟩
                  case measure => simp [intOf]; omega
              · have DN := hid_of (SN.out (fun t => q1 t.1))
                have qe : (lf == (d : Int)) = false := by simpa using q1
                clear SY SN
                go_wp2_with fail
                go_roundw
                case rel => exact ⟨j + 1, by omega, by go_num, ⟨_, BW.out, DN.out⟩, KW.out⟩
                case measure => simp [intOf]; omega
            · obtain rfl : j = m := by omega
              have DN : Hid (DIn es k lv (d + 1) 0 f) := DIn.next LS.out (by rw [← HL.out]; exact DS)
              have BF := hid_of BS
              have KF := hid_of K2
              clear BS DS K2 HE2
              go_wp2_with fail
              go_roundw
              case rel => exact ⟨d + 1, by omega, by go_num, ⟨_, BF.out, DN.out⟩, KF.out⟩
              case measure => simp [intOf]; omega
        · obtain rfl : d = k := by omega
          have BF : Hid (IntsAt wr q d lv) := BR.congr (fun u hu => by rw [DR.last LS.out u hu])
          have KF := hid_of (KB.out.trans K)
          clear BR DR K HE2
          go_wp2_with fail
          go_ret2
          exact ⟨q, rfl, BF.out, KF.out⟩
end Go.Proofs.Ytjheiaegpoppaaa
