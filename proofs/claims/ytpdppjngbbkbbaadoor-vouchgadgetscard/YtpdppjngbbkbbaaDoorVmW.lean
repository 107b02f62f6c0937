/- The document's Gadget. -/
import Derived.Test.YtpdppjngbbkbbaaDoorVmU
namespace Go.Proofs.YtpdppjngbbkbbaaDoor
open Go.RowKit

set_option maxRecDepth 100000 in
set_option linter.unusedSimpArgs false in
set_option maxHeartbeats 8000000 in
theorem gadgetR_calls (nodes : Int) (ao : Option Addr) (n cap : Nat) (es : List Ed) (bo : Option Addr) (mb bc : Nat) (b : List Int) (w : World) (h : ERow w ao n cap es) (hJ : JRow w bo mb bc b) (N' : Int) (l' : Nat) (code : Int) (hans : Hid (gadSize nodes es n b mb = (N', l', code))) (L0 : List Ed) (hL : Hid (gadEs nodes es n b mb = L0)) (cnt0 : Int) (hC : Hid (gadCnt nodes es n b mb = cnt0)) :
    Calls Tryd.prog 31 #[.agg #[.int .i64 nodes, .slice ao n cap], .slice bo mb bc] w fun e w' => (∃ ao' cap', e = .returned (.tuple #[.agg #[.int .i64 N', .slice ao' l' cap'], .int .i64 cnt0, .int .i64 code]) ∧ ERow w' ao' l' cap' L0) ∧ Kept w w' := by
  obtain ⟨i0, hi, hz0, hz1, hz2⟩ := infoE
  have hr1 := h.room
  have hm1 := h.most
  unfold maxLen at hm1
  have NIL : Hid (∀ w : World, ERow w none 0 0 []) := fun w => ⟨rfl, Nat.le_refl _, by unfold maxLen; omega, fun h => by omega⟩
  obtain ⟨z, hz⟩ : ∃ z, bndCode nodes es b mb = z := ⟨_, rfl⟩
  have KW : Kept w ((w.alloc (Obj.cells #[.int .i64 nodes, .slice ao n cap] 24)).alloc (Obj.cells #[.int .i64 0, .slice none 0 0] 24)) := ((Kept.refl w).alloc _).alloc _
  have w0 : ((w.alloc (Obj.cells #[.int .i64 nodes, .slice ao n cap] 24)).alloc (Obj.cells #[.int .i64 0, .slice none 0 0] 24)).cell? ⟨w.heap.size, 0, none⟩ = some (.int .i64 nodes) := by simp [go_sem]
  have w1 : ((w.alloc (Obj.cells #[.int .i64 nodes, .slice ao n cap] 24)).alloc (Obj.cells #[.int .i64 0, .slice none 0 0] 24)).cell? ⟨w.heap.size, 1, none⟩ = some (.slice ao n cap) := by simp [go_sem]
  have f0 : ((w.alloc (Obj.cells #[.int .i64 nodes, .slice ao n cap] 24)).alloc (Obj.cells #[.int .i64 0, .slice none 0 0] 24)).cell? ⟨w.heap.size + 1, 0, none⟩ = some (.int .i64 0) := by simp [go_sem]
  have f1 : ((w.alloc (Obj.cells #[.int .i64 nodes, .slice ao n cap] 24)).alloc (Obj.cells #[.int .i64 0, .slice none 0 0] 24)).cell? ⟨w.heap.size + 1, 1, none⟩ = some (.slice none 0 0) := by simp [go_sem]
  have ff : ∀ o, ((w.alloc (Obj.cells #[.int .i64 nodes, .slice ao n cap] 24)).alloc (Obj.cells #[.int .i64 0, .slice none 0 0] 24)).frozen? ⟨w.heap.size + 1, o, none⟩ = false := fun o => by simp [go_sem]
  have HE := hid_of h
  have HJ := hid_of hJ
  clear h hJ
  go_enter Tryd.func31, Tryd.ntmps31
  go_wp2_with fail
  generalize (w.alloc (Obj.cells #[.int .i64 nodes, .slice ao n cap] 24)).alloc (Obj.cells #[.int .i64 0, .slice none 0 0] 24) = W1 at KW w0 w1 f0 f1 ff ⊢
  have KWH := hid_of KW
  have W0H := hid_of w0
  have W1H := hid_of w1
  have F0 := hid_of f0
  have F1 := hid_of f1
  have FF := hid_of ff
  have FIN : Hid (∀ (wa : World) (a c : Value), Kept W1 wa → wa.cell? ⟨w.heap.size + 1, 0, none⟩ = some (.int .i64 0) ∧ wa.cell? ⟨w.heap.size + 1, 1, none⟩ = some (.slice none 0 0) ∧ wa.frozen? ⟨w.heap.size + 1, 0, none⟩ = false ∧ wa.frozen? ⟨w.heap.size + 1, 1, none⟩ = false ∧
    ((wa.setCell ⟨w.heap.size + 1, 0, none⟩ a).setCell ⟨w.heap.size + 1, 1, none⟩ c).cell? ⟨w.heap.size + 1, 0, none⟩ = some a ∧ ((wa.setCell ⟨w.heap.size + 1, 0, none⟩ a).setCell ⟨w.heap.size + 1, 1, none⟩ c).cell? ⟨w.heap.size + 1, 1, none⟩ = some c ∧ Kept w ((wa.setCell ⟨w.heap.size + 1, 0, none⟩ a).setCell ⟨w.heap.size + 1, 1, none⟩ c)) := fun wa a c K => by
    have h0 := K.cell F0.out
    have h1 := K.cell F1.out
    obtain ⟨-, -, t3, t4⟩ := box2w h0 h1 a c
    exact ⟨h0, h1, (Below.frozen (p := ⟨w.heap.size + 1, 0, none⟩) K (lt_cell F0.out)).trans (FF.out 0), (Below.frozen (p := ⟨w.heap.size + 1, 1, none⟩) K (lt_cell F1.out)).trans (FF.out 1), t3, t4, ((KWH.out.trans K).setCell (p := ⟨w.heap.size + 1, 0, none⟩) (by simp) a).setCell (p := ⟨w.heap.size + 1, 1, none⟩) (by simp) c⟩
  have HZ := hid_of hz
  clear KW w0 w1 f0 f1 ff hz
  refine (boundsR_calls nodes ao n cap es bo mb bc b W1 (HE.out.kept KWH.out) (HJ.out.kept KWH.out) z HZ).mono ?_
  rintro e wa ⟨rfl, K1⟩
  by_cases hzz : z = 0
  rotate_left
  · have q : (z != 0) = true := by simpa using hzz
    have hz' := HZ.out
    have e1 := hans.out
    have e2 := hL.out
    have e3 := hC.out
    have ANS : Hid (N' = 0 ∧ l' = 0 ∧ code = z ∧ L0 = [] ∧ cnt0 = 0) := by
      unfold bndCode at hz'
      unfold gadSize at e1
      unfold gadEs at e2
      unfold gadCnt at e3
      by_cases hf : (faultOf nodes es).1 ≠ 0
      · rw [if_pos hf] at hz' e1 e2 e3
        obtain ⟨a1, a2⟩ := Prod.mk.inj e1
        obtain ⟨a3, a4⟩ := Prod.mk.inj a2
        exact ⟨a1.symm, a3.symm, by rw [← a4, hz'], e2.symm, e3.symm⟩
      · rw [if_neg hf] at hz' e1 e2 e3
        by_cases hb : BndOk b mb nodes.toNat
        · rw [if_pos hb] at hz'; exact absurd hz'.symm hzz
        · rw [if_neg hb] at hz'
          rw [if_pos hb] at e1 e2 e3
          obtain ⟨a1, a2⟩ := Prod.mk.inj e1
          obtain ⟨a3, a4⟩ := Prod.mk.inj a2
          exact ⟨a1.symm, a3.symm, by rw [← a4, hz'], e2.symm, e3.symm⟩
    obtain ⟨rfl, rfl, rfl, rfl, rfl⟩ := ANS.out
    obtain ⟨s0, s1, s2, s3, t3, t4, KF⟩ := FIN.out wa (.int .i64 0) (.slice none 0 0) K1
    have KFH := hid_of KF
    clear KF K1 hzz hz' e1 e2 e3 HZ hans hL hC
    go_wp2
    refine bodyPost_ret (v := .tuple #[.agg #[.int .i64 0, .slice none 0 0], .int .i64 0, .int .i64 code]) (by simp [results, Tryd.results31, go_sem, t3, t4]) rfl ⟨⟨none, 0, rfl, NIL.out _⟩, KFH.out⟩
  subst hzz
  have hfb : (faultOf nodes es).1 = 0 ∧ BndOk b mb nodes.toNat := by
    have hz' := HZ.out
    unfold bndCode at hz'
    split at hz'
    · rename_i t; exact absurd hz' t
    · rename_i t
      split at hz'
      · rename_i t2; exact ⟨by simpa using t, t2⟩
      · omega
  obtain ⟨hf, hbnd⟩ := hfb
  obtain ⟨N, rfl, RG⟩ := right_of (fault_zero hf)
  rw [← HE.out.len] at RG
  rw [Int.toNat_natCast] at hbnd
  have hN := RG.nodes
  have hn := RG.edges
  obtain ⟨cp, hcp⟩ : ∃ cp, cpyOf es n b = cp := ⟨_, rfl⟩
  have CP : Hid (CpOk cp N) := fun v hv => by rw [← hcp]; exact cpyOf_bd hn hbnd hv
  have YES : Hid (Fits cp N es n → N' = szN cp N es n ∧ l' = (gadTo cp N es n).length ∧ code = 0 ∧ L0 = gadTo cp N es n ∧ cnt0 = nlTo es n) := fun t => by
    have e1 := hans.out
    have e2 := hL.out
    have e3 := hC.out
    unfold gadSize at e1
    unfold gadEs at e2
    unfold gadCnt at e3
    rw [if_neg (by simp [hf]), Int.toNat_natCast, if_neg (fun u => u hbnd), hcp, if_neg (fun u => u t)] at e1 e2 e3
    obtain ⟨a1, a2⟩ := Prod.mk.inj e1
    obtain ⟨a3, a4⟩ := Prod.mk.inj a2
    exact ⟨a1.symm, a3.symm, a4.symm, e2.symm, e3.symm⟩
  have NO : Hid (¬ Fits cp N es n → N' = 0 ∧ l' = 0 ∧ code = 3 ∧ L0 = [] ∧ cnt0 = 0) := fun t => by
    have e1 := hans.out
    have e2 := hL.out
    have e3 := hC.out
    unfold gadSize at e1
    unfold gadEs at e2
    unfold gadCnt at e3
    rw [if_neg (by simp [hf]), Int.toNat_natCast, if_neg (fun u => u hbnd), hcp, if_pos t] at e1 e2 e3
    obtain ⟨a1, a2⟩ := Prod.mk.inj e1
    obtain ⟨a3, a4⟩ := Prod.mk.inj a2
    exact ⟨a1.symm, a3.symm, a4.symm, e2.symm, e3.symm⟩
  have CC := hid_of (fun w' (K : Kept W1 w') v (hv : v < N) => (by rw [← hcp]; exact copiesR_calls (N : Int) N ao n cap hn es bo mb bc b v hv w' (HE.out.kept (KWH.out.trans K)) (HJ.out.kept (KWH.out.trans K)) hbnd : Calls Tryd.prog 76 #[.agg #[.int .i64 (N : Int), .slice ao n cap], .slice bo mb bc, .int .i64 (v : Int)] w' fun r w'' => r = .returned (.int .i64 (cp v)) ∧ Kept w' w''))
  have RGH := hid_of RG
  have hmk : ∀ w : World, (Instr.makeSlice 25 (.int .i64 ((N : Int) + 1)) (.int .i64 ((N : Int) + 1))).run Tryd.prog w = .ok (.slice (some ⟨w.heap.size, 0, none⟩) (N + 1) (N + 1)) (w.alloc (.cells (madeCells #[.int .i64 0] (N + 1)) 3)) :=
    fun w => by
      rw [show ((N : Int) + 1) = ((N + 1 : Nat) : Int) by omega]
      exact run_make_row' 25 3 (.int .i64 0) 8 Tryd.underlying25 infoJ0 rfl .i64 .i64 (N + 1) (by omega) (by omega) w
  have w0 := K1.cell W0H.out
  obtain ⟨q, hq⟩ : ∃ q, wa.heap.size = q := ⟨_, rfl⟩
  have KM : Kept wa (wa.alloc (.cells (madeCells #[.int .i64 0] (N + 1)) 3)) := (Kept.refl wa).alloc _
  have I0 : IntsAt (wa.alloc (.cells (madeCells #[.int .i64 0] (N + 1)) 3)) q (N + 1) (fun v => if v ≤ 0 then sm cp v else 0) := by
    rw [← hq]; exact World.rowIs.congr (World.rowIs_made wa (.int .i64 0) (N + 1) 3) (fun i _ => by
      by_cases e : i ≤ 0
      · obtain rfl : i = 0 := by omega
        simp [sm]
      · simp [e])
  have K1H := hid_of K1
  have hqW : W1.heap.size ≤ q := by rw [← hq]; exact K1.size
  clear hans hL hC HZ hf hbnd hcp RG K1
  go_upto_region 5 with fail
  have HK := hid_of (K1H.out.trans KM)
  have IH := hid_of I0
  generalize wa.alloc (.cells (madeCells #[.int .i64 0] (N + 1)) 3) = W2 at HK IH ⊢
  clear hmk KM I0 hq w0
  go_wp2_with fail
  go_loopw [9] (fun i wr => ∃ (v : Nat), v ≤ N ∧ i = .int .i64 v ∧ Kept W1 wr ∧ IntsAt wr q (N + 1) (fun i => if i ≤ v then sm cp i else 0)) (fun i _ => N - (intOf i).toNat)
  case atStart => exact ⟨0, by omega, rfl, HK.out, IH.out⟩
  case round =>
    obtain ⟨v, hv, rfl, K, I⟩ := hrel
    have KH := hid_of K
    have I1H := hid_of I
    have w0 := K.cell W0H.out
    have w1 := K.cell W1H.out
    clear HK IH K I
    by_cases hgo : (v : Int) < (N : Int)
    · have hvN : v < N := by omega
      have x0 := I1H.out.cell (show v < N + 1 by omega)
      have x1 := I1H.out.cell (show v + 1 < N + 1 by omega)
      simp only [Nat.le_refl, if_true] at x0
      have fx := World.rowIs.frozen I1H.out (v + 1)
      have SU := hid_of (sm_succ cp v)
      obtain ⟨s1, s2⟩ := CP.out.sm_bd v (by omega)
      obtain ⟨p1, p2⟩ := CP.out v hvN
      have CV := hid_of (fun w' (K' : Kept wr w') => CC.out w' (KH.out.trans K') v hvN)
      obtain ⟨s, hs⟩ : ∃ s, sm cp v = s := ⟨_, rfl⟩
      obtain ⟨cv, hcv⟩ : ∃ c, cp v = c := ⟨_, rfl⟩
      rw [hs] at x0 s1 s2
      rw [hcv] at CV p1 p2
      rw [hs, hcv] at SU
      have WR : IntKind.i64.wrap (s + cv) = s + cv := wrap_id (by omega) (by omega)
      have WRV : IntKind.i64.wrap ((v : Int) + 1) = ((v + 1 : Nat) : Int) := by rw [wrap_id (by omega) (by omega)]; omega
      have hA1 : (v : Int) < ((N + 1 : Nat) : Int) := by omega
      have hA2 : (v : Int) < (N : Int) + 1 := by omega
      have hA3 : (v : Int) + 1 < (N : Int) + 1 := by omega
      have hA4 : 0 ≤ (v : Int) + 1 := by omega
      have X1 := hid_of x1
      have FX := hid_of fx
      clear x1 fx hs hcv s1 s2 p1 p2
      go_wp2_with fail
      refine Ord.regionZ 13 [(0, 0), (1, 0), (2, 0), (3, 0), (4, 0), (5, 0), (6, 1), (7, 1), (8, 0), (9, 0), (10, 2), (11, 0), (12, 0), (13, 3)] (fun w' => Kept wr w') (by kernel_rfl) (by kernel_rfl) (by kernel_rfl) (by kernel_rfl) (fun _ _ d _ _ h => by cases d <;> exact h) ((Kept.refl _).drewN _) ?_
      repeat
        refine Ord.stepZ rfl (fun Ko hK => ?_)
        simp only [Ord.bodyZ, Ord.body]
        go_simp
        first
          | (refine hK _ _ ?_; clear hK Ko)
          | (refine ⟨_, fun w' hS => (by have c0 := hS.cell x0; have c1 := hS.cell w0; have c2 := hS.cell w1; simp only [c0, c1, c2, Result.andThen]; rfl), hK _ _ ?_⟩; clear hK Ko)
          | (go_at_call 76; refine (CV.out _ ((Kept.refl _).drewN _)).mono ?_; clear CV; rintro e w5 ⟨rfl, K5⟩; have y1 := (((Kept.refl wr).drewN 1).trans K5).cell X1.out; have yf := (Below.frozen (p := ⟨q, v + 1, none⟩) (((Kept.refl wr).drewN 1).trans K5) (lt_cell X1.out)).trans FX.out; refine ⟨((Kept.refl _).drewN _).trans K5, hK _ _ ?_⟩; clear hK Ko)
      refine Ord.doneZ ?_
      have KD := ((Kept.refl wr).drewN 1).trans K5
      have IN : Hid (IntsAt (w5.setCell ⟨q, v + 1, none⟩ (.int .i64 (s + cv))) q (N + 1) (fun i => if i ≤ v + 1 then sm cp i else 0)) := ((I1H.out.kept KD).set (v + 1) (s + cv)).congr (fun i _ => by
        show Value.int .i64 (if i = v + 1 then s + cv else if i ≤ v then sm cp i else 0) = .int .i64 (if i ≤ v + 1 then sm cp i else 0)
        by_cases e1 : i = v + 1
        · subst e1; rw [if_pos rfl, if_pos (Nat.le_refl _), SU.out]
        · rw [if_neg e1]
          by_cases e2 : i ≤ v
          · rw [if_pos e2, if_pos (by omega)]
          · rw [if_neg e2, if_neg (by omega)])
      have KN : Hid (Kept W1 (w5.setCell ⟨q, v + 1, none⟩ (.int .i64 (s + cv)))) := (KH.out.trans KD).setCell (p := ⟨q, v + 1, none⟩) hqW _
      clear KD K5 I1H KH w0 w1 x0 y1 yf X1 FX SU
      generalize w5.setCell ⟨q, v + 1, none⟩ (.int .i64 (s + cv)) = W9 at IN KN ⊢
      go_wp2_with fail
      go_roundw
      case rel => exact ⟨v + 1, by omega, by go_num, KN.out, IN.out⟩
      case measure => simp [intOf]; omega
    · obtain rfl : v = N := by omega
      have IF : Hid (IntsAt wr q (v + 1) (sm cp)) := World.rowIs.congr I1H.out (fun i hi => by simp; omega)
      have xN := IF.out.cell (show v < v + 1 by omega)
      obtain ⟨s1, s2⟩ := CP.out.sm_bd v (Nat.le_refl _)
      obtain ⟨A, hA⟩ : ∃ A, sm cp v = A := ⟨_, rfl⟩
      rw [hA] at xN s1 s2
      have HA := hid_of hA
      obtain ⟨nb, hnb⟩ : ∃ nb, wr.heap.size = nb := ⟨_, rfl⟩
      have KA : Kept wr (wr.alloc (Obj.cells #[.int .i64 A, .slice none 0 0] 24)) := (Kept.refl wr).alloc _
      have NET : NetAt (wr.alloc (Obj.cells #[.int .i64 A, .slice none 0 0] 24)) nb nb A (gadTo cp v es 0) := by
        rw [← hnb]
        exact ⟨by simp [go_sem], ⟨none, 0, by simp [go_sem, gadTo], World.ownsRow_nil _ _ _ _, by simp [Value.ownBlock]⟩, by simp [go_sem], by simp [go_sem], Nat.le_refl _, fun q => by simp [go_sem]⟩
      have hqn : q < nb := by rw [← hnb]; exact IF.out.lt
      have hWn : W1.heap.size ≤ nb := by omega
      have hA5 : (v : Int) < (v : Int) + 1 := by omega
      have hA6 : (v : Int) < ((v + 1 : Nat) : Int) := by omega
      have KHR := hid_of KH.out
      go_upto_region 10 with fail
      have I2H := hid_of (IF.out.kept KA)
      have NETH : Hid (NetAt (wr.alloc (Obj.cells #[.int .i64 A, .slice none 0 0] 24)) nb nb (szN cp v es 0) (gadTo cp v es 0)) := by
        have e : szN cp v es 0 = A := by rw [← HA.out]; simp [szN, nlTo, sm]
        rw [e]; exact NET
      have KB := hid_of (KHR.out.trans KA)
      generalize wr.alloc (Obj.cells #[.int .i64 A, .slice none 0 0] 24) = W5 at I2H NETH KB ⊢
      clear KA NET IF I1H KH KHR xN hA w0 w1 hnb s1 s2 HA
      go_wp2_with fail
      go_loopw [11, 12, 13, 14, 15, 16, 17] (fun cn i _ _ _ _ _ w2 => ∃ (j : Nat), j ≤ n ∧ i = .int .i64 j ∧ cn = .int .i64 (nlTo es j) ∧ NetAt w2 nb nb (szN cp v es j) (gadTo cp v es j) ∧ IntsAt w2 q (v + 1) (sm cp) ∧ Kept W1 w2 ∧ (gadTo cp v es j).length ≤ 4096) (fun _ i _ _ _ _ _ _ => n - (intOf i).toNat)
      case atStart => exact ⟨0, by omega, rfl, rfl, NETH.out, I2H.out, KB.out, by simp [gadTo]⟩
      case round =>
        obtain ⟨j, hj, rfl, rfl, NR, I, K, hlen⟩ := hrel
        have NRH := hid_of NR
        have I1H := hid_of I
        have KH := hid_of K
        have w0 := K.cell W0H.out
        have w1 := K.cell W1H.out
        clear NETH I2H KB NR I
        by_cases hgo2 : (j : Int) < (n : Int)
        · obtain ⟨b5, off5, rfl, hc⟩ := (HE.out.kept (KWH.out.trans K)).cell (by omega)
          obtain ⟨d1, d2, d3, d4⟩ := hc j (by omega)
          obtain ⟨e1, e2, e3, e4⟩ := RGH.out.ends j (by omega)
          have SU1 := hid_of (gadTo_succ cp v es j)
          have SU2 := hid_of (szN_succ cp v es j)
          have SU3 := hid_of (nlTo_succ es j)
          have BIG : Hid (4096 < (gadTo cp v es (j + 1)).length → ¬ Fits cp v es n) := fun t u => by
            have h1 := gadTo_len CP.out RGH.out.ends (j + 1) (by omega)
            have h2 := szE_mono CP.out RGH.out.ends (k := j + 1) (j := n) (by omega) (Nat.le_refl _)
            have h3 := u.2
            omega
          obtain ⟨xb1, xb2⟩ := szN_bd (es := es) CP.out hN (k := j) (by omega)
          obtain ⟨nl1, nl2⟩ := nlTo_bd es j
          unfold lp at SU1 SU2 SU3
          generalize szN cp v es j = X at SU1 SU2 xb1 xb2 NRH
          generalize hLL : gadTo cp v es j = L at SU1 NRH hlen
          generalize nlTo es j = cnt at SU3 nl1 nl2 ⊢
          generalize edAt es j = e at d1 d2 d3 d4 e1 e2 e3 e4 SU1 SU2 SU3
          obtain ⟨ef, et, ec, ek⟩ := e
          simp only at d1 d2 d3 d4 e1 e2 e3 e4 SU1 SU2 SU3
          obtain ⟨f, rfl⟩ : ∃ f : Nat, ef = (f : Int) := ⟨ef.toNat, by omega⟩
          obtain ⟨t, rfl⟩ : ∃ t : Nat, et = (t : Int) := ⟨et.toNat, by omega⟩
          simp only [Int.toNat_natCast] at SU1
          have hfN : f < v := by omega
          have htN : t < v := by omega
          clear hc K hLL e1 e2 e3 e4
          go_upto_region 15 with fail
          generalize hW : wr.alloc (Obj.cells #[.int .i64 (f : Int), .int .i64 (t : Int), .int .i64 ec, .int .i64 ek] 86) = W3
          obtain ⟨EK, a0, a1, -, -, -⟩ := edge_box hW
          have N3 := hid_of (NRH.out.box EK (Nat.le_refl _) (⟨a0, a1⟩ : Box2 W3 wr.heap.size (.int .i64 (f : Int)) (.int .i64 (t : Int))))
          have K3 := hid_of (KH.out.trans EK)
          have I3 := hid_of (I1H.out.kept EK)
          have NR3 := hid_of (NRH.out.keep EK)
          obtain ⟨eb, heb⟩ : ∃ eb, wr.heap.size = eb := ⟨_, rfl⟩
          rw [heb] at N3 a0 a1
          clear d1 d2 d3 d4 EK hW w1 w0 KH I1H NRH
          by_cases hft : f = t
          · have hq1 : ((f : Int) == (t : Int)) = true := by rw [beq_iff_eq]; omega
            rw [if_pos hq1] at SU1 SU2 SU3
            have T1 : Hid (gadTo cp v es (j + 1) = L) := SU1.out
            have T2 : Hid (szN cp v es (j + 1) = X) := by have := SU2.out; show _ = _; omega
            have T3 : Hid (nlTo es (j + 1) = cnt) := by have := SU3.out; show _ = _; omega
            have NF : Hid (NetAt W3 nb nb (szN cp v es (j + 1)) (gadTo cp v es (j + 1))) := by rw [T1.out, T2.out]; exact NR3.out
            have LF : Hid ((gadTo cp v es (j + 1)).length ≤ 4096) := by rw [T1.out]; exact hlen
            clear SU1 SU2 SU3 N3 NR3 hft BIG T1 T2
            simp only [heb]
            go_wp2_with fail
            go_roundw
            case rel => exact ⟨j + 1, by omega, by go_num, by rw [T3.out], NF.out, I3.out, K3.out, LF.out⟩
            case measure => simp [intOf]; omega
          · have hq1 : ((f : Int) == (t : Int)) = false := by rw [beq_eq_false_iff_ne]; omega
            have hq2 : ¬ ((f : Int) == (t : Int)) = true := by rw [beq_iff_eq]; omega
            rw [if_neg hq2] at SU1 SU2 SU3
            unfold gadOf at SU1
            obtain ⟨cf, hcf⟩ : ∃ c : Nat, cp f = (c : Int) := ⟨(cp f).toNat, by have := (CP.out f hfN).1; omega⟩
            obtain ⟨ct, hct⟩ : ∃ c : Nat, cp t = (c : Int) := ⟨(cp t).toNat, by have := (CP.out t htN).1; omega⟩
            have cfb : cf ≤ 4096 := by have := (CP.out f hfN).2; omega
            have ctb : ct ≤ 4096 := by have := (CP.out t htN).2; omega
            obtain ⟨sf1, sf2⟩ := CP.out.sm_bd f (by omega)
            obtain ⟨st1, st2⟩ := CP.out.sm_bd t (by omega)
            have FF1 := hid_of (show sm cp (f + 1) = sm cp f + (cf : Int) by rw [sm_succ, hcf])
            have TT1 := hid_of (show sm cp (t + 1) = sm cp t + (ct : Int) by rw [sm_succ, hct])
            rw [hcf, hct, Int.toNat_natCast, Int.toNat_natCast] at SU1
            obtain ⟨Sf, hSf⟩ : ∃ s, sm cp f = s := ⟨_, rfl⟩
            obtain ⟨St, hSt⟩ : ∃ s, sm cp t = s := ⟨_, rfl⟩
            rw [hSf] at SU1 FF1 sf1 sf2
            rw [hSt] at SU1 TT1 st1 st2
            have FS := hid_of hSf
            have TS := hid_of hSt
            have WRC : IntKind.i64.wrap (cnt + 1) = cnt + 1 := wrap_id (by omega) (by omega)
            have WRX : IntKind.i64.wrap (X + 1) = X + 1 := wrap_id (by omega) (by omega)
            have WRY : IntKind.i64.wrap (X + 2) = X + 2 := wrap_id (by omega) (by omega)
            have g0 := N3.out.c0
            have g1 := N3.out.zz 0
            have T3 : Hid (nlTo es (j + 1) = cnt + 1) := by have := SU3.out; show _ = _; omega
            have T2 : Hid (szN cp v es (j + 1) = X + 2) := by have := SU2.out; show _ = _; omega
            clear SU2 SU3 NR3 hft hcf hct hSf hSt
            simp only [heb]
            go_upto_region 20 with fail
            obtain ⟨N4, C4⟩ := N3.out.nodes (X + 2)
            have N4H := hid_of N4
            have C4H := hid_of C4
            clear N4 C4 g0 g1 N3 a0 a1
            generalize W3.setCell ⟨nb, 0, none⟩ (.int .i64 (X + 2)) = W4 at N4H C4H ⊢
            obtain ⟨ao1, cap1, x1, O, hp, he⟩ := N4H.out.c1
            obtain ⟨len, hle⟩ : ∃ len, L.length = len := ⟨_, rfl⟩
            rw [hle] at x1 O hp he hlen
            have HLE := hid_of hle
            have bB : nb ≤ W4.heap.size := Nat.le_of_lt (lt_cell x1)
            have NW := hid_of (cell_new4 W4 86 ⟨X, X + 1, 0, 0⟩)
            have HM := hid_of (World.ownsRow.alloc O (Obj.cells #[.int .i64 X, .int .i64 (X + 1), .int .i64 0, .int .i64 0] 86))
            have HO := hid_of O
            have HP := hid_of hp
            have HEE := hid_of he
            have X1 := hid_of x1
            clear O hp he hle
            go_wp2_with (at_builtin; refine wpList_append_own_at _ rfl _ _ 22 rfl nb 86 i0 _ 4 32 Tryd.underlying22 hi hz0 hz1 hz2 rfl (by decide) _ _ _ rfl HM.out ⟨W4.heap.size, 0, none⟩ 1 1 (ecells ⟨X, X + 1, 0, 0⟩) rfl rfl NW.out (ecells_one _) (by unfold maxLen; omega) (by omega) (by simp; omega) ?_)
            intro v' w6 own grow _ hat
            obtain ⟨ao5, cap5, rfl, q1, q2, NF, CF⟩ := nete_step N4H.out HLE.out X1.out HO.out HP.out HEE.out own grow (by
              rcases hat with u | u
              · exact .inl u
              · exact .inr (by rw [u]))
            have N7 := hid_of NF
            have C7 := hid_of (C4H.out.trans CF)
            clear own grow hat NF CF NW HM HO HP HEE X1 N4H C4H x1
            go_upto_region 21 with fail
            generalize w6.setCell ⟨nb, 1, none⟩ (.slice ao5 (len + 1) cap5) = W7 at N7 C7 ⊢
            have I7 := hid_of (I3.out.keep C7.out hqn)
            have K7 := hid_of (K3.out.ch C7.out (fun i hi => by omega))
            have y0 := N7.out.box.f0
            have y1 := I7.out.cell (show f < v + 1 by omega)
            rw [FS.out] at y1
            have hf1 : (f : Int) < (v : Int) + 1 := by omega
            have hf2 : (f : Int) + 1 < (v : Int) + 1 := by omega
            have hf3 : 0 ≤ (f : Int) + 1 := by omega
            have ht1 : (t : Int) < (v : Int) + 1 := by omega
            have ht2 : (t : Int) + 1 < (v : Int) + 1 := by omega
            have ht3 : 0 ≤ (t : Int) + 1 := by omega
            have hlen1 : Hid ((L ++ [(⟨X, X + 1, 0, 0⟩ : Ed)]).length = len + 1) := by show _ = _; simp [HLE.out]
            clear q1 q2 I3 K3 C7 heb
            generalize hL1 : L ++ [(⟨X, X + 1, 0, 0⟩ : Ed)] = L1 at N7 SU1 hlen1
            have HL1 := hid_of hL1
            clear hL1 HLE
            go_wp2_with fail
            go_loopw [16] (fun cv w2 => ∃ (c : Nat), c ≤ cf ∧ cv = .int .i64 (Sf + (c : Int)) ∧ NetE w2 nb nb eb (X + 2) (L1 ++ upTo Sf X c) (.int .i64 (f : Int)) (.int .i64 (t : Int)) ∧ Ch (fun k => nb ≤ k) W7 w2) (fun cv _ => (Sf + (cf : Int) - intOf cv).toNat)
            case atStart => exact ⟨0, by omega, by simp, by simpa [upTo] using N7.out, Ch.of_kept (Kept.refl _)⟩
            case round =>
              obtain ⟨c, hcl, rfl, NC, CC1⟩ := hrel
              have NCH := hid_of NC
              have CCH := hid_of CC1
              have y0 := NC.box.f0
              have y1 := (I7.out.keep CC1 hqn).cell (show f + 1 < v + 1 by omega)
              rw [FF1.out] at y1
              have UTc : Hid (upTo Sf X (c + 1) = upTo Sf X c ++ [⟨Sf + (c : Int), X, 0, 0⟩]) := rfl
              have lenU : Hid ((L1 ++ upTo Sf X c).length = len + 1 + c) := by show _ = _; rw [List.length_append, upTo_len, hlen1.out]
              clear NC CC1
              by_cases hgo4 : c < cf
              · have qk : Sf + (c : Int) < Sf + (cf : Int) := by omega
                obtain ⟨Z, hZe⟩ : ∃ Z, Sf + (c : Int) = Z := ⟨_, rfl⟩
                rw [hZe] at qk UTc ⊢
                have HZE := hid_of hZe
                have zb1 : 0 ≤ Z := by omega
                have zb2 : Z ≤ 4202496 := by omega
                have WRZ : IntKind.i64.wrap (Z + 1) = Z + 1 := wrap_id (by omega) (by omega)
                obtain ⟨ao1, cap1, x1, O, hp, he⟩ := NCH.out.c1
                generalize hLC : L1 ++ upTo Sf X c = LC at NCH lenU O hp he x1
                have HLC := hid_of hLC
                obtain ⟨lc, hlc⟩ : ∃ l, LC.length = l := ⟨_, rfl⟩
                rw [hlc] at x1 O hp he lenU
                have HLE := hid_of hlc
                have lcb : lc ≤ 8193 := by have := lenU.out; omega
                have bB2 : nb ≤ wr.heap.size := Nat.le_of_lt (lt_cell x1)
                have NW := hid_of (cell_new4 wr 86 ⟨Z, X, 0, 0⟩)
                have HM := hid_of (World.ownsRow.alloc O (Obj.cells #[.int .i64 Z, .int .i64 X, .int .i64 0, .int .i64 0] 86))
                have HO := hid_of O
                have HP := hid_of hp
                have HEE := hid_of he
                have X1 := hid_of x1
                clear O hp he hlc hLC hZe
                go_wp2_with (at_builtin; refine wpList_append_own_at _ rfl _ _ 22 rfl nb 86 i0 _ 4 32 Tryd.underlying22 hi hz0 hz1 hz2 rfl (by decide) _ _ _ rfl HM.out ⟨wr.heap.size, 0, none⟩ 1 1 (ecells ⟨Z, X, 0, 0⟩) rfl rfl NW.out (ecells_one _) (by unfold maxLen; omega) (by omega) (by simp; omega) ?_)
                intro v' w6 own grow _ hat
                obtain ⟨ao5, cap5, rfl, q1, q2, NF, CF⟩ := nete_step NCH.out HLE.out X1.out HO.out HP.out HEE.out own grow (by
                  rcases hat with u | u
                  · exact .inl u
                  · exact .inr (by rw [u]))
                rw [← HLC.out, List.append_assoc, ← UTc.out] at NF
                have N9 := hid_of NF
                have C9 := hid_of (CCH.out.trans CF)
                clear own grow hat NF CF NW HM HO HP HEE X1 x1 NCH CCH y0 y1
                go_wp2_with fail
                go_roundw
                case rel => exact ⟨c + 1, by omega, by have := HZE.out; go_num, N9.out, C9.out⟩
                case measure => have := HZE.out; simp [intOf]; omega
              · obtain rfl : c = cf := by omega
                have qk : ¬ Sf + (c : Int) < Sf + (c : Int) := by omega
                have I8 := hid_of (I7.out.keep CCH.out hqn)
                have K8 := hid_of (K7.out.ch CCH.out (fun i hi => by omega))
                have z0 := NCH.out.box.f1
                have z1 := I8.out.cell (show t < v + 1 by omega)
                rw [TS.out] at z1
                generalize hL2 : L1 ++ upTo Sf X c = L2 at NCH lenU SU1
                have hlen2 : Hid (L2.length = len + 1 + c) := lenU.out
                have HL2 := hid_of hL2
                clear lenU UTc hL2 N7 I7 K7 CCH
                obtain ⟨W8, hW8⟩ : ∃ x, x = wr := ⟨_, rfl⟩
                subst hW8
                go_wp2_with fail
                go_loopw [17] (fun cv w2 => ∃ (c2 : Nat), c2 ≤ ct ∧ cv = .int .i64 (St + (c2 : Int)) ∧ NetE w2 nb nb eb (X + 2) (L2 ++ dnTo (X + 1) St c2) (.int .i64 (f : Int)) (.int .i64 (t : Int)) ∧ Ch (fun k => nb ≤ k) W8 w2) (fun cv _ => (St + (ct : Int) - intOf cv).toNat)
                case atStart => exact ⟨0, by omega, by simp, by simpa [dnTo] using NCH.out, Ch.of_kept (Kept.refl _)⟩
                case round =>
                  obtain ⟨c2, hcl2, rfl, NC, CC1⟩ := hrel
                  have NDH := hid_of NC
                  have CDH := hid_of CC1
                  have y0 := NC.box.f1
                  have y1 := (I8.out.keep CC1 hqn).cell (show t + 1 < v + 1 by omega)
                  rw [TT1.out] at y1
                  have UTc : Hid (dnTo (X + 1) St (c2 + 1) = dnTo (X + 1) St c2 ++ [⟨X + 1, St + (c2 : Int), 0, 0⟩]) := rfl
                  have lenU : Hid ((L2 ++ dnTo (X + 1) St c2).length = len + 1 + c + c2) := by show _ = _; rw [List.length_append, dnTo_len, hlen2.out]
                  clear NC CC1 z0 z1
                  by_cases hgo5 : c2 < ct
                  · have qk2 : St + (c2 : Int) < St + (ct : Int) := by omega
                    obtain ⟨Z, hZe⟩ : ∃ Z, St + (c2 : Int) = Z := ⟨_, rfl⟩
                    rw [hZe] at qk2 UTc ⊢
                    have HZE := hid_of hZe
                    have zb1 : 0 ≤ Z := by omega
                    have zb2 : Z ≤ 4202496 := by omega
                    have WRZ : IntKind.i64.wrap (Z + 1) = Z + 1 := wrap_id (by omega) (by omega)
                    obtain ⟨ao1, cap1, x1, O, hp, he⟩ := NDH.out.c1
                    generalize hLC : L2 ++ dnTo (X + 1) St c2 = LC at NDH lenU O hp he x1
                    have HLC := hid_of hLC
                    obtain ⟨lc, hlc⟩ : ∃ l, LC.length = l := ⟨_, rfl⟩
                    rw [hlc] at x1 O hp he lenU
                    have HLE := hid_of hlc
                    have lcb : lc ≤ 12289 := by have := lenU.out; omega
                    have bB2 : nb ≤ wr.heap.size := Nat.le_of_lt (lt_cell x1)
                    have NW := hid_of (cell_new4 wr 86 ⟨X + 1, Z, 0, 0⟩)
                    have HM := hid_of (World.ownsRow.alloc O (Obj.cells #[.int .i64 (X + 1), .int .i64 Z, .int .i64 0, .int .i64 0] 86))
                    have HO := hid_of O
                    have HP := hid_of hp
                    have HEE := hid_of he
                    have X1 := hid_of x1
                    clear O hp he hlc hLC hZe
                    go_wp2_with (at_builtin; refine wpList_append_own_at _ rfl _ _ 22 rfl nb 86 i0 _ 4 32 Tryd.underlying22 hi hz0 hz1 hz2 rfl (by decide) _ _ _ rfl HM.out ⟨wr.heap.size, 0, none⟩ 1 1 (ecells ⟨X + 1, Z, 0, 0⟩) rfl rfl NW.out (ecells_one _) (by unfold maxLen; omega) (by omega) (by simp; omega) ?_)
                    intro v' w6 own grow _ hat
                    obtain ⟨ao5, cap5, rfl, q1, q2, NF, CF⟩ := nete_step NDH.out HLE.out X1.out HO.out HP.out HEE.out own grow (by
                      rcases hat with u | u
                      · exact .inl u
                      · exact .inr (by rw [u]))
                    rw [← HLC.out, List.append_assoc, ← UTc.out] at NF
                    have N9 := hid_of NF
                    have C9 := hid_of (CDH.out.trans CF)
                    clear own grow hat NF CF NW HM HO HP HEE X1 x1 NDH CDH y0 y1
                    go_wp2_with fail
                    go_roundw
                    case rel => exact ⟨c2 + 1, by omega, by have := HZE.out; go_num, N9.out, C9.out⟩
                    case measure => have := HZE.out; simp [intOf]; omega
                  · obtain rfl : c2 = ct := by omega
                    have qk2 : ¬ St + (c2 : Int) < St + (c2 : Int) := by omega
                    have I9 := hid_of (I8.out.keep CDH.out hqn)
                    have K9 := hid_of (K8.out.ch CDH.out (fun i hi => by omega))
                    have T1 : Hid (gadTo cp v es (j + 1) = L2 ++ dnTo (X + 1) St c2) := by
                      have := SU1.out
                      show _ = _
                      rw [this, ← HL2.out, ← HL1.out]
                      simp [List.append_assoc]
                    have NF : Hid (NetAt wr nb nb (szN cp v es (j + 1)) (gadTo cp v es (j + 1))) := by rw [T1.out, T2.out]; exact NDH.out.net
                    obtain ⟨ao6, cap6, x1, -, -⟩ := NF.out.c1
                    generalize hGL : (gadTo cp v es (j + 1)).length = gl at x1 BIG
                    have HGL := hid_of hGL
                    clear hGL SU1 T1 NDH CDH lenU UTc I8 K8 NCH
                    go_upto_region 29 with fail
                    clear y0 y1
                    by_cases hbig : 4096 < gl
                    · have qb : decide ((4096 : Int) < (gl : Int)) = true := decide_eq_true (by omega)
                      have qbN : decide (4096 < gl) = true := decide_eq_true hbig
                      obtain ⟨rfl, rfl, rfl, rfl, rfl⟩ := NO.out (BIG.out hbig)
                      clear hbig
                      go_upto_region 30 with fail
                      obtain ⟨s0, s1, s2, s3, t3, t4, KF⟩ := FIN.out wr (.int .i64 0) (.slice none 0 0) K9.out
                      have KFH := hid_of KF
                      clear KF x1
                      go_wp2
                      refine bodyPost_ret (v := .tuple #[.agg #[.int .i64 0, .slice none 0 0], .int .i64 0, .int .i64 3]) (by simp [results, Tryd.results31, go_sem, t3, t4]) rfl ⟨⟨none, 0, rfl, NIL.out _⟩, KFH.out⟩
                    · have qb : decide ((4096 : Int) < (gl : Int)) = false := decide_eq_false (by omega)
                      have qbN : decide (4096 < gl) = false := decide_eq_false hbig
                      have LF : Hid ((gadTo cp v es (j + 1)).length ≤ 4096) := by rw [HGL.out]; show gl ≤ 4096; omega
                      clear hbig
                      go_wp2_with fail
                      go_roundw
                      case rel => exact ⟨j + 1, by omega, by go_num, by rw [T3.out], NF.out, I9.out, K9.out, LF.out⟩
                      case measure => simp [intOf]; omega
        · obtain rfl : j = n := by omega
          obtain ⟨fo, fc, m1, m2, m3⟩ := NRH.out.c1
          have m0 := NRH.out.c0
          have GLN := hid_of (gadTo_len CP.out RGH.out.ends j (Nat.le_refl _))
          have FT : Hid (Fits cp v es j ↔ szN cp v es j ≤ 1024) := ⟨fun u => u.1, fun u => ⟨u, by have := GLN.out; omega⟩⟩
          obtain ⟨xb1, xb2⟩ := szN_bd (es := es) CP.out hN (k := j) (by omega)
          obtain ⟨XN, hXN⟩ : ∃ x, szN cp v es j = x := ⟨_, rfl⟩
          rw [hXN] at FT xb1 xb2 m0 YES
          have HLEN := hid_of hlen
          clear hXN hlen GLN
          go_upto_region 31 with fail
          clear w0 w1
          by_cases hfit : XN ≤ 1024
          · have qb : decide (1024 < XN) = false := decide_eq_false (by omega)
            obtain ⟨rfl, rfl, rfl, rfl, rfl⟩ := YES.out (FT.out.2 hfit)
            obtain ⟨gl, hgl⟩ : ∃ gl, (gadTo cp v es j).length = gl := ⟨_, rfl⟩
            rw [hgl] at m1 m2
            have HGL := hid_of hgl
            have hlt : w.heap.size + 1 < nb := by
              have := lt_cell F1.out
              simp only at this
              omega
            have M2 := hid_of m2
            clear hfit m2 m3 hgl
            go_upto_region 33 with fail
            obtain ⟨s0, s1, s2, s3, t3, t4, KF⟩ := FIN.out wr (.int .i64 N') (.slice fo gl fc) KH.out
            have O2 := ownsRow_setCell_below (ownsRow_setCell_below M2.out (a := ⟨w.heap.size + 1, 0, none⟩) hlt (.int .i64 N')) (a := ⟨w.heap.size + 1, 1, none⟩) hlt (.slice fo gl fc)
            have EF := hid_of (ERow.of_owns O2)
            have KFH := hid_of KF
            clear KF O2
            go_wp2
            refine bodyPost_ret (v := .tuple #[.agg #[.int .i64 N', .slice fo gl fc], .int .i64 (nlTo es j), .int .i64 0]) (by simp [results, Tryd.results31, go_sem, t3, t4]) rfl ⟨⟨fo, fc, by rw [HGL.out], by rw [HGL.out]; exact EF.out⟩, KFH.out⟩
          · have qb : decide (1024 < XN) = true := decide_eq_true (by omega)
            obtain ⟨rfl, rfl, rfl, rfl, rfl⟩ := NO.out (fun u => hfit (FT.out.1 u))
            clear hfit m1 m2 m3
            go_upto_region 32 with fail
            obtain ⟨s0, s1, s2, s3, t3, t4, KF⟩ := FIN.out wr (.int .i64 0) (.slice none 0 0) KH.out
            have KFH := hid_of KF
            clear KF m0
            go_wp2
            refine bodyPost_ret (v := .tuple #[.agg #[.int .i64 0, .slice none 0 0], .int .i64 0, .int .i64 3]) (by simp [results, Tryd.results31, go_sem, t3, t4]) rfl ⟨⟨none, 0, rfl, NIL.out _⟩, KFH.out⟩
end Go.Proofs.YtpdppjngbbkbbaaDoor
