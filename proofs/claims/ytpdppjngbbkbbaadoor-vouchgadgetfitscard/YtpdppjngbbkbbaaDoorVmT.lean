/- Gadget: what it makes, a row of its own. -/
import Derived.Test.YtpdppjngbbkbbaaDoorVpA
namespace Go.Proofs.YtpdppjngbbkbbaaDoor
open Go.RowKit

/-- A row of edges beside a cell that is set. -/
theorem ERow.put {w : World} {ao : Option Addr} {n cap : Nat} {es : List Ed} (h : ERow w ao n cap es) {q i : Nat} (u : Value) (hq : ∀ x, ao = some x → x.block ≠ q) : ERow (w.setCell ⟨q, i, none⟩ u) ao n cap es :=
  ⟨h.len, h.room, h.most, fun hn => by
    obtain ⟨b, off, e, hc⟩ := h.cell hn
    have hb : ¬ b = q := hq _ e
    exact ⟨b, off, e, fun j hj => by
      obtain ⟨c1, c2, c3, c4⟩ := hc j hj
      exact ⟨cell_put c1 hb, cell_put c2 hb, cell_put c3 hb, cell_put c4 hb⟩⟩⟩
theorem ERow.chg {F : Nat → Prop} {w w' : World} {ao : Option Addr} {n cap : Nat} {es : List Ed} (h : ERow w ao n cap es) (C : Ch F w w') (hq : ∀ x, ao = some x → ¬ F x.block) : ERow w' ao n cap es :=
  ⟨h.len, h.room, h.most, fun hn => by
    obtain ⟨b, off, e, hc⟩ := h.cell hn
    have hb : ¬ F b := hq _ e
    exact ⟨b, off, e, fun j hj => by
      obtain ⟨c1, c2, c3, c4⟩ := hc j hj
      exact ⟨C.cell c1 hb, C.cell c2 hb, C.cell c3 hb, C.cell c4 hb⟩⟩⟩

set_option maxRecDepth 100000 in
set_option maxHeartbeats 1000000 in
theorem looked_ok2 (nodes : Int) (ao : Option Addr) (n cap : Nat) (es : List Ed) (w : World) (h : ERow w ao n cap es) (hf : Hid (faultOf nodes es = (0, 0))) (cl : Nat) (caps : Array Value) (hcl : ∀ w, Sem.run Tryd.prog (callFunc cl caps) w = .ok (.enter cl caps) w) (F : Nat → Prop) (R : World → Prop) (hF : ∀ k, F k → k < w.heap.size)
    (HC : ∀ w1, Kept w w1 → w.heap.size + 1 < w1.heap.size → Calls Tryd.prog cl caps w1 fun e w2 => e = .returned (.tuple #[]) ∧ R w2 ∧ Ch F w1 w2) :
    Calls Tryd.prog 47 #[.agg #[.int .i64 nodes, .slice ao n cap], .func (.func cl) #[] caps] w fun e w' => e = .returned (.int .i64 0) ∧ ∃ w2, R w2 ∧ Ch F w w2 ∧ Ch (fun k => k = w.heap.size + 1) w2 w' := by
  have hmf : ∀ (fn : Fn) (first cap : Array Value) (w : World), (Instr.makeFunc fn first cap).run Tryd.prog w = .ok (.func fn first cap) w := fun _ _ _ _ => rfl
  have C := hid_of (check_calls nodes ao n cap es (lookW w (.int .i64 nodes) (.slice ao n cap)) (h.kept (lookW_kept _ _ _)) 0 0 hf)
  have hfl : ∀ (w : World), (Instr.field 126 (.agg #[.int .i64 0, .int .i64 0]) 0).run Tryd.prog w = .ok (.int .i64 0) w := fun _ => rfl
  have hnF : ¬ F (w.heap.size + 1) := fun t => by have := hF _ t; omega
  have HCH := hid_of HC
  clear h hf HC
  go_enter_defers Tryd.func47, Tryd.ntmps47
  go_wp2_with fail
  refine C.out.mono ?_
  rintro e wa ⟨rfl, K1⟩
  have e1 := K1.cell (lookW_cell w _ _)
  have f1 : wa.frozen? ⟨w.heap.size + 1, 0, none⟩ = false := (Below.frozen (p := ⟨w.heap.size + 1, 0, none⟩) K1 (lt_cell (lookW_cell w _ _))).trans (lookW_frozen w _ _)
  go_wp2_with fail
  refine (demand_ok 0 _).mono ?_
  rintro e wc ⟨rfl, rfl⟩
  go_wp2_with fail
  refine (HCH.out wa ((lookW_kept w _ _).trans K1) (lt_cell e1)).mono ?_
  rintro e w2 ⟨rfl, hR, hCh⟩
  have e2 := hCh.cell e1 hnF
  have f2 := (hCh.frozen (o := 0) (lt_cell e1) hnF).trans f1
  go_wp2
  refine leaves_cons (f := 93) (args := #[.pointer (some ⟨w.heap.size + 1, 0, none⟩)]) (by simp) (by simp [go_sem]) ?_
  refine (catchP_idle (w.heap.size + 1) _).mono ?_
  rintro e u' w'' ⟨rfl, rfl, rfl⟩
  have q1 := World.cell?_setCell_same w2 ⟨w.heap.size + 1, 0, none⟩ (.int .i64 0) e2
  refine ⟨.int .i64 0, by simp [results, Tryd.results47, go_sem, q1], rfl, w2, hR, ?_, ?_⟩
  · exact (Ch.of_kept ((lookW_kept w _ _).trans K1)).trans hCh
  · exact (Ch.refl (fun k => k = w.heap.size + 1) w2).setCell (p := ⟨w.heap.size + 1, 0, none⟩) rfl _

set_option maxRecDepth 100000 in
set_option linter.unusedSimpArgs false in
set_option maxHeartbeats 4000000 in
theorem gad_new (N : Nat) (ao : Option Addr) (n cap : Nat) (es : List Ed) (bo : Option Addr) (mb bc : Nat) (b : List Int) (w : World) (h : ERow w ao n cap es) (hJ : JRow w bo mb bc b) (RG : Right N n es) :
    Calls Tryd.prog 74 #[.agg #[.int .i64 (N : Int), .slice ao n cap], .slice bo mb bc] w fun r w' => Kept w w' ∧ ((¬ BndOk b mb N ∧ r = .panicked [{ v := .iface 140 (.agg #[.int .i64 130]), recovered := false }]) ∨ (BndOk b mb N ∧ ¬ Fits (cpyOf es n b) N es n ∧ r = .panicked [{ v := .iface 140 (.agg #[.int .i64 3]), recovered := false }]) ∨
      (BndOk b mb N ∧ Fits (cpyOf es n b) N es n ∧ ∃ ao' len' cap', r = .returned (.agg #[.int .i64 (szN (cpyOf es n b) N es n), .slice ao' len' cap']) ∧ ERow w' ao' len' cap' (gadTo (cpyOf es n b) N es n) ∧ ∀ x, ao' = some x → w.heap.size ≤ x.block)) := by
  have hr1 := h.room
  have hm1 := h.most
  unfold maxLen at hm1
  have hn := RG.edges
  have hN := RG.nodes
  have hmk : ∀ w : World, (Instr.makeSlice 25 (.int .i64 (N : Int)) (.int .i64 (N : Int))).run Tryd.prog w = .ok (.slice (some ⟨w.heap.size, 0, none⟩) N N) (w.alloc (.cells (madeCells #[.int .i64 0] N) 3)) :=
    fun w => run_make_row' 25 3 (.int .i64 0) 8 Tryd.underlying25 infoJ0 rfl .i64 .i64 N (by omega) (by omega) w
  have KW : Kept w ((w.alloc (Obj.cells #[.int .i64 (N : Int), .slice ao n cap] 24)).alloc (Obj.cells #[.int .i64 0, .slice none 0 0] 24)) := ((Kept.refl w).alloc _).alloc _
  have g0 : ((w.alloc (Obj.cells #[.int .i64 (N : Int), .slice ao n cap] 24)).alloc (Obj.cells #[.int .i64 0, .slice none 0 0] 24)).cell? ⟨w.heap.size, 0, none⟩ = some (.int .i64 (N : Int)) := by simp [go_sem]
  have g1 : ((w.alloc (Obj.cells #[.int .i64 (N : Int), .slice ao n cap] 24)).alloc (Obj.cells #[.int .i64 0, .slice none 0 0] 24)).cell? ⟨w.heap.size, 1, none⟩ = some (.slice ao n cap) := by simp [go_sem]
  have r0 : ((w.alloc (Obj.cells #[.int .i64 (N : Int), .slice ao n cap] 24)).alloc (Obj.cells #[.int .i64 0, .slice none 0 0] 24)).cell? ⟨w.heap.size + 1, 0, none⟩ = some (.int .i64 0) := by simp [go_sem]
  have r1 : ((w.alloc (Obj.cells #[.int .i64 (N : Int), .slice ao n cap] 24)).alloc (Obj.cells #[.int .i64 0, .slice none 0 0] 24)).cell? ⟨w.heap.size + 1, 1, none⟩ = some (.slice none 0 0) := by simp [go_sem]
  have rf : ∀ o, ((w.alloc (Obj.cells #[.int .i64 (N : Int), .slice ao n cap] 24)).alloc (Obj.cells #[.int .i64 0, .slice none 0 0] 24)).frozen? ⟨w.heap.size + 1, o, none⟩ = false := fun o => by simp [go_sem]
  have HE := hid_of h
  have HJ := hid_of hJ
  have RGH := hid_of RG
  clear h hJ RG
  go_enter Tryd.func74, Tryd.ntmps74
  go_wp2_with fail
  generalize (w.alloc (Obj.cells #[.int .i64 (N : Int), .slice ao n cap] 24)).alloc (Obj.cells #[.int .i64 0, .slice none 0 0] 24) = W1 at KW g0 g1 r0 r1 rf ⊢
  have RFH := hid_of rf
  have HG0 := hid_of g1
  have RB := hid_of (show Box2 W1 (w.heap.size + 1) (.int .i64 0) (.slice none 0 0) from ⟨r0, r1⟩)
  have KWH := hid_of KW
  clear r0 r1 rf KW
  refine (numbers_calls N (.slice ao n cap) bo mb bc b W1 (HJ.out.kept KWH.out)).mono ?_
  rintro e wa ⟨K1, ⟨ok, rfl⟩ | ⟨ok, rfl⟩⟩
  rotate_left
  · have HK := hid_of (KWH.out.trans K1)
    clear g0 g1 K1
    go_wp2
    exact ⟨rfl, HK.out, .inl ⟨ok, rfl⟩⟩
  replace g0 := K1.cell g0
  replace g1 := K1.cell g1
  have HK1 := hid_of K1
  have OK := hid_of ok
  obtain rfl : mb = N := ok.1
  clear K1 ok
  go_wp2_with fail
  refine (copies_calls mb ao n cap es bo mb bc b wa (HE.out.kept (KWH.out.trans HK1.out)) (HJ.out.kept (KWH.out.trans HK1.out)) RGH.out OK.out).mono ?_
  rintro e wb ⟨q1, rfl, hq1, K2, I1⟩
  have CP : Hid (CpOk (cpyOf es n b) mb) := fun v hv => cpyOf_bd hn OK.out hv
  obtain ⟨cp, hcp⟩ : ∃ cp, cpyOf es n b = cp := ⟨_, rfl⟩
  rw [hcp] at CP I1
  have HCP := hid_of hcp
  clear hcp
  replace g0 := K2.cell g0
  replace g1 := K2.cell g1
  have HK2 := hid_of (HK1.out.trans K2)
  have I1H := hid_of I1
  have hq1w : q1 < wb.heap.size := I1.lt
  have hwq1 : w.heap.size + 1 < q1 := by have := KWH.out.size; have := HK1.out.size; have := lt_cell RB.out.f0; simp only at this; omega
  clear K2 HK1 I1 hq1
  go_wp2_with fail
  refine (size_calls mb ao n cap es q1 cp wb (HE.out.kept (KWH.out.trans HK2.out)) I1H.out RGH.out CP.out).mono ?_
  rintro e wc ⟨rfl, K3⟩
  replace g0 := K3.cell g0
  replace g1 := K3.cell g1
  have HK3 := hid_of (HK2.out.trans K3)
  have I3H := hid_of (I1H.out.kept K3)
  have hq1c : q1 < wc.heap.size := Nat.lt_of_lt_of_le hq1w K3.size
  clear K3 HK2 I1H hq1w
  by_cases hfit : Fits cp mb es n
  rotate_left
  · have HF := hid_of hfit
    unfold Fits at hfit
    generalize szN cp mb es n = A at hfit ⊢
    generalize szE cp es n = E at hfit ⊢
    have HKF := hid_of (KWH.out.trans HK3.out)
    clear g0 g1
    by_cases hA : A ≤ 1024
    · have hE : ¬ E ≤ 4096 := fun t => hfit ⟨hA, t⟩
      have qA : decide (A ≤ 1024) = true := decide_eq_true hA
      have qE : decide (E ≤ 4096) = false := decide_eq_false hE
      go_wp2_with (go_at_call 81; refine (demand_no _ _).mono ?_; rintro e w' ⟨rfl, rfl⟩)
      exact ⟨rfl, HKF.out, .inr (.inl ⟨OK.out, by rw [HCP.out]; exact HF.out, rfl⟩)⟩
    · have qA : decide (A ≤ 1024) = false := decide_eq_false hA
      go_wp2_with (go_at_call 81; refine (demand_no _ _).mono ?_; rintro e w' ⟨rfl, rfl⟩)
      exact ⟨rfl, HKF.out, .inr (.inl ⟨OK.out, by rw [HCP.out]; exact HF.out, rfl⟩)⟩
  have HF := hid_of hfit
  obtain ⟨hA, hE⟩ := hfit
  have SN : Hid (szN cp mb es n = szN cp mb es n) := rfl
  obtain ⟨A, hAe⟩ : ∃ A, szN cp mb es n = A := ⟨_, rfl⟩
  obtain ⟨E, hEe⟩ : ∃ E, szE cp es n = E := ⟨_, rfl⟩
  rw [hAe] at hA ⊢
  rw [hEe] at hE ⊢
  have HAE := hid_of hAe
  have HEE := hid_of hEe
  clear hAe hEe SN
  have qA : decide (A ≤ 1024) = true := decide_eq_true hA
  have qE : decide (E ≤ 4096) = true := decide_eq_true hE
  have KM : Kept wc (wc.alloc (.cells (madeCells #[.int .i64 0] mb) 3)) := (Kept.refl wc).alloc _
  have I0 : IntsAt (wc.alloc (.cells (madeCells #[.int .i64 0] mb) 3)) wc.heap.size mb (fun v => if v < 0 then sm cp v else 0) := World.rowIs.congr (World.rowIs_made wc (.int .i64 0) mb 3) (fun i _ => by simp)
  obtain ⟨q2, hq2⟩ : ∃ q2, wc.heap.size = q2 := ⟨_, rfl⟩
  have HWQ : Hid (W1.heap.size ≤ q2) := by show W1.heap.size ≤ q2; rw [← hq2]; exact HK3.out.size
  rw [hq2] at I0 hq1c
  go_upto_region 6 with (go_at_call 81; refine (demand_ok _ _).mono ?_; rintro e w' ⟨rfl, rfl⟩)
  replace g1 := KM.cell g1
  have I4H := hid_of (I3H.out.kept KM)
  have I0H := hid_of I0
  have HK4 := hid_of (HK3.out.trans KM)
  generalize wc.alloc (.cells (madeCells #[.int .i64 0] mb) 3) = W4 at g1 I4H I0H HK4 ⊢
  have HG1 : Hid (W1.cell? ⟨w.heap.size, 1, none⟩ = some (.slice ao n cap)) := HG0.out
  clear hmk KM I0 g0 g1 I3H HK3 hq2
  go_wp2_with fail
  go_loopw [9, 10, 11, 42] (fun x _ _ i wr => ∃ (k : Nat), k ≤ mb ∧ i = .int .i64 k ∧ x = .int .i64 (sm cp k) ∧ Kept W1 wr ∧ IntsAt wr q2 mb (fun v => if v < k then sm cp v else 0) ∧ IntsAt wr q1 mb cp) (fun _ _ _ i _ => mb - (intOf i).toNat)
  case atStart => exact ⟨0, by omega, rfl, rfl, HK4.out, I0H.out, I4H.out⟩
  case round =>
    obtain ⟨k, hk, rfl, rfl, K, I2, I1⟩ := hrel
    have I2H := hid_of I2
    have I1H := hid_of I1
    have KH := hid_of K
    clear I4H I0H HK4 I1 I2
    by_cases hgo : (k : Int) < (mb : Int)
    · have hkm : k < mb := by omega
      have ck := I1H.out.cell hkm
      have c2 := I2H.out.cell hkm
      simp only [Nat.lt_irrefl, if_false] at c2
      have f2 := World.rowIs.frozen I2H.out k
      have SU := hid_of (sm_succ cp k)
      obtain ⟨s1, s2⟩ := CP.out.sm_bd k hk
      obtain ⟨p1, p2⟩ := CP.out k hkm
      have s3 : sm cp k ≤ 4194304 := by omega
      have WR : IntKind.i64.wrap (sm cp k + cp k) = sm cp k + cp k := wrap_id (by omega) (by omega)
      have IN : Hid (IntsAt (wr.setCell ⟨q2, k, none⟩ (.int .i64 (sm cp k))) q2 mb (fun v => if v < k + 1 then sm cp v else 0)) := (I2H.out.set k (sm cp k)).congr (fun v _ => by
        show Value.int .i64 (if v = k then sm cp k else if v < k then sm cp v else 0) = .int .i64 (if v < k + 1 then sm cp v else 0)
        by_cases e1 : v = k
        · subst e1; rw [if_pos rfl, if_pos (by omega)]
        · rw [if_neg e1]
          by_cases e2 : v < k
          · rw [if_pos e2, if_pos (by omega)]
          · rw [if_neg e2, if_neg (by omega)])
      have I1N : Hid (IntsAt (wr.setCell ⟨q2, k, none⟩ (.int .i64 (sm cp k))) q1 mb cp) := I1H.out.ch (Ch.setCell (F := fun k => k = q2) (Ch.refl _ wr) (p := ⟨q2, k, none⟩) rfl _) (by omega)
      have KN : Hid (Kept W1 (wr.setCell ⟨q2, k, none⟩ (.int .i64 (sm cp k)))) := KH.out.setCell (p := ⟨q2, k, none⟩) HWQ.out _
      clear s1 s2 s3 p1 p2 I1H I2H K KH
      go_wp2_with fail
      go_roundw
      case rel => exact ⟨k + 1, by omega, by go_num, by rw [SU.out], KN.out, IN.out, I1N.out⟩
      case measure => simp [intOf]; omega
    · obtain rfl : k = mb := by omega
      have IF2 : IntsAt wr q2 k (sm cp) := World.rowIs.congr I2H.out (fun v hv => by simp [hv])
      have lq2 := IF2.lt
      obtain ⟨nb, hnb⟩ : ∃ nb, wr.heap.size = nb := ⟨_, rfl⟩
      have KA : Kept wr (wr.alloc (Obj.cells #[.int .i64 A, .slice none 0 0] 24)) := (Kept.refl wr).alloc _
      have NET : NetAt (wr.alloc (Obj.cells #[.int .i64 A, .slice none 0 0] 24)) nb nb A (gadTo cp k es 0) := by
        rw [← hnb]
        exact ⟨by simp [go_sem], ⟨none, 0, by simp [go_sem, gadTo], World.ownsRow_nil _ _ _ _, by simp [Value.ownBlock]⟩, by simp [go_sem], by simp [go_sem], Nat.le_refl _, fun q => by simp [go_sem]⟩
      rw [hnb] at lq2
      have g1 := KH.out.cell HG1.out
      go_upto_region 14 with fail
      replace g1 := KA.cell g1
      have J1 := hid_of (I1H.out.kept KA)
      have J2 := hid_of (IF2.kept KA)
      have NETH := hid_of NET
      have KB := hid_of (KH.out.trans KA)
      generalize wr.alloc (Obj.cells #[.int .i64 A, .slice none 0 0] 24) = W5 at g1 J1 J2 NETH KB ⊢
      clear KA NET IF2 I1H I2H KH K hnb
      have hWn : W1.heap.size ≤ nb := by have := HWQ.out; omega
      have hq1n : q1 < nb := by omega
      have HG1' : Hid (W1.cell? ⟨w.heap.size, 1, none⟩ = some (.slice ao n cap)) := HG1.out
      go_wp2_with fail
      go_loopw [9, 15, 16, 17, 61] (fun x _ _ _ i wr => ∃ (j : Nat), j ≤ n ∧ i = .int .i64 j ∧ x = .int .i64 (szN cp k es j) ∧ NetAt wr nb nb A (gadTo cp k es j) ∧ IntsAt wr q1 k cp ∧ IntsAt wr q2 k (sm cp) ∧ Kept W1 wr) (fun _ _ _ _ i _ => n - (intOf i).toNat)
      case atStart => exact ⟨0, by omega, rfl, by simp [szN, nlTo, sm], NETH.out, J1.out, J2.out, KB.out⟩
      case round =>
        obtain ⟨j, hj, rfl, rfl, NR, I1, I2, K⟩ := hrel
        have NRH := hid_of NR
        have I1H := hid_of I1
        have I2H := hid_of I2
        have KH := hid_of K
        clear NETH J1 J2 KB NR I1 I2 g1
        by_cases hgo2 : (j : Int) < (n : Int)
        · obtain ⟨b5, off5, rfl, hc⟩ := (HE.out.kept (KWH.out.trans K)).cell (by omega)
          obtain ⟨d1, d2, d3, d4⟩ := hc j (by omega)
          obtain ⟨e1, e2, e3, e4⟩ := RGH.out.ends j (by omega)
          have SU1 := hid_of (gadTo_succ cp k es j)
          have SU2 := hid_of (szN_succ cp k es j)
          have LE : Hid (¬ lp es j = true → ((gadTo cp k es j).length : Int) + (1 + cp (edAt es j).f.toNat + cp (edAt es j).t.toNat) ≤ 4096) := fun hlp => by
            have h1 := gadTo_len CP.out RGH.out.ends j (by omega)
            have h2 := szE_mono CP.out RGH.out.ends (k := j + 1) (j := n) (by omega) (Nat.le_refl _)
            have h3 := HEE.out
            rw [szE_succ, if_neg hlp, h3] at h2
            omega
          obtain ⟨xb1, xb2⟩ := szN_bd (es := es) CP.out hN (k := j) (by omega)
          unfold lp at SU1 SU2 LE
          generalize szN cp k es j = X at SU1 SU2 xb1 xb2
          generalize gadTo cp k es j = L at SU1 LE NRH
          generalize edAt es j = e at d1 d2 d3 d4 e1 e2 e3 e4 SU1 SU2 LE
          have CL := hid_of (isLoop_calls e)
          obtain ⟨ef, et, ec, ek⟩ := e
          simp only at d1 d2 d3 d4 e1 e2 e3 e4 SU1 SU2 LE
          obtain ⟨f, rfl⟩ : ∃ f : Nat, ef = (f : Int) := ⟨ef.toNat, by omega⟩
          obtain ⟨t, rfl⟩ : ∃ t : Nat, et = (t : Int) := ⟨et.toNat, by omega⟩
          simp only [Int.toNat_natCast] at SU1 LE
          have hfN : f < k := by omega
          have htN : t < k := by omega
          obtain ⟨eb, heb⟩ : ∃ eb, wr.heap.size = eb := ⟨_, rfl⟩
          clear hc K
          go_upto_region 18 with fail
          generalize hW : wr.alloc (Obj.cells #[.int .i64 (f : Int), .int .i64 (t : Int), .int .i64 ec, .int .i64 ek] 86) = W6
          obtain ⟨EK, a0, a1, a2, a3, -⟩ := edge_box hW
          rw [heb] at a0 a1 a2 a3
          have NE := hid_of (NRH.out.box EK (Nat.le_of_eq heb) ⟨a0, a1⟩)
          have K6 := hid_of (KH.out.trans EK)
          have I16 := hid_of (I1H.out.kept EK)
          have I26 := hid_of (I2H.out.kept EK)
          have N6 := hid_of (NRH.out.keep EK)
          clear d1 d2 d3 d4 EK KH hW heb I1H I2H NRH
          go_wp2_with fail
          refine (CL.out _).mono ?_
          rintro e w7 ⟨rfl, K7⟩
          have NE7 := hid_of (NE.out.keep K7)
          have HK7 := hid_of (K6.out.trans K7)
          have I17 := hid_of (I16.out.kept K7)
          have I27 := hid_of (I26.out.kept K7)
          have N7 := hid_of (N6.out.keep K7)
          clear K7 CL a0 a1 a2 a3 K6 I16 I26 NE N6
          by_cases hft : f = t
          · have hq1 : ((f : Int) == (t : Int)) = true := by rw [beq_iff_eq]; omega
            have T1 : Hid (gadTo cp k es (j + 1) = L) := by
              show gadTo cp k es (j + 1) = L
              rw [SU1.out, if_pos hq1]
            have T2 : Hid (szN cp k es (j + 1) = X) := by
              show szN cp k es (j + 1) = X
              rw [SU2.out, if_pos hq1, Int.add_zero]
            clear SU1 SU2 LE NE7
            go_wp2_with fail
            go_roundw
            case rel => exact ⟨j + 1, by omega, by go_num, by rw [T2.out], by rw [T1.out]; exact N7.out, I17.out, I27.out, HK7.out⟩
            case measure => simp [intOf]; omega
          · have hq1 : ((f : Int) == (t : Int)) = false := by rw [beq_eq_false_iff_ne]; omega
            have T1 : Hid (gadTo cp k es (j + 1) = L ++ gadOf cp f t X) := by
              show gadTo cp k es (j + 1) = _
              rw [SU1.out, if_neg (by rw [hq1]; decide)]
            have T2 : Hid (szN cp k es (j + 1) = X + 2) := by
              show szN cp k es (j + 1) = X + 2
              rw [SU2.out, if_neg (by rw [hq1]; decide)]
            have LE2 := LE.out (by rw [hq1]; decide)
            obtain ⟨p1, p2⟩ := CP.out f hfN
            obtain ⟨p3, p4⟩ := CP.out t htN
            obtain ⟨cf, hcf⟩ : ∃ cf : Nat, cp f = (cf : Int) := ⟨(cp f).toNat, by omega⟩
            obtain ⟨ct, hct⟩ : ∃ ct : Nat, cp t = (ct : Int) := ⟨(cp t).toNat, by omega⟩
            obtain ⟨u1, u2⟩ := CP.out.sm_bd f (by omega)
            obtain ⟨u3, u4⟩ := CP.out.sm_bd t (by omega)
            have u2' : sm cp f ≤ 4194304 := by omega
            have u4' : sm cp t ≤ 4194304 := by omega
            unfold gadOf at T1
            have FF := hid_of hcf
            have FT := hid_of hct
            rw [hcf, hct, Int.toNat_natCast, Int.toNat_natCast] at T1
            rw [hcf, hct] at LE2
            obtain ⟨Sf, hSf⟩ : ∃ Sf, sm cp f = Sf := ⟨_, rfl⟩
            obtain ⟨St, hSt⟩ : ∃ St, sm cp t = St := ⟨_, rfl⟩
            rw [hSf] at u1 u2' T1
            rw [hSt] at u3 u4' T1
            have FSf := hid_of hSf
            have FSt := hid_of hSt
            have WX : IntKind.i64.wrap (X + 1) = X + 1 := wrap_id (by omega) (by omega)
            have WX2 : IntKind.i64.wrap (X + 2) = X + 2 := wrap_id (by omega) (by omega)
            have JC := hid_of (join_calls X (X + 1) nb nb eb A L _ _ w7 NE7.out (by omega))
            clear u2 u4 p1 p2 p3 p4 hcf hct hSf hSt SU1 SU2 LE N7 e1 e2 e3 e4
            go_wp2_with fail
            refine JC.out.mono ?_
            rintro e w8 ⟨rfl, N8, C8⟩
            have I18 := hid_of (I17.out.keep C8 hq1n)
            have I28 := hid_of (I27.out.keep C8 lq2)
            have K8 := hid_of (HK7.out.ch C8 (fun i hi => by omega))
            have UF : Hid (∀ c : Nat, upTo Sf X (c + 1) = upTo Sf X c ++ [⟨Sf + (c : Int), X, 0, 0⟩]) := fun _ => rfl
            have UT : Hid (∀ c : Nat, dnTo (X + 1) St (c + 1) = dnTo (X + 1) St c ++ [⟨X + 1, St + (c : Int), 0, 0⟩]) := fun _ => rfl
            obtain ⟨L1, hL1⟩ : ∃ L1, L ++ [(⟨X, X + 1, 0, 0⟩ : Ed)] = L1 := ⟨_, rfl⟩
            have T1b : Hid (gadTo cp k es (j + 1) = (L1 ++ upTo Sf X cf) ++ dnTo (X + 1) St ct) := by
              show gadTo cp k es (j + 1) = _
              rw [T1.out, ← hL1]
              simp only [List.append_assoc]
            have hl1 : (L1.length : Int) = (L.length : Int) + 1 := by rw [← hL1]; simp
            rw [hL1] at N8
            have N8H := hid_of N8
            have b0 := N8.box.f0
            have ck := I18.out.cell hfN
            rw [FF.out] at ck
            have hLl : (L1.length : Int) + (cf + ct) ≤ 4096 := by omega
            clear JC NE7 HK7 I17 I27 C8 N8 T1 LE2 hL1 hl1
            go_wp2_with fail
            go_loopw [16, 77] (fun _ i w2 => ∃ (c : Nat), c ≤ cf ∧ i = .int .i64 c ∧ NetE w2 nb nb eb A (L1 ++ upTo Sf X c) (.int .i64 (f : Int)) (.int .i64 (t : Int)) ∧ Ch (fun k => nb ≤ k) w8 w2) (fun _ i _ => cf - (intOf i).toNat)
            case atStart => exact ⟨0, by omega, rfl, by simpa [upTo] using N8H.out, Ch.refl _ _⟩
            case round =>
              obtain ⟨c, hc, rfl, NC, CC⟩ := hrel
              clear N8H b0 ck
              by_cases hgo3 : (c : Int) < (cf : Int)
              · have b0 := NC.box.f0
                have c2 := (I28.out.keep CC lq2).cell hfN
                rw [FSf.out] at c2
                have UFc := hid_of (UF.out c)
                have lenU := upTo_len Sf X c
                have NCH := hid_of NC
                have JC := hid_of (join_calls (Sf + (c : Int)) X nb nb eb A (L1 ++ upTo Sf X c) _ _ wr NC (by rw [List.length_append, lenU]; omega))
                have WS : IntKind.i64.wrap (Sf + (c : Int)) = Sf + (c : Int) := wrap_id (by omega) (by omega)
                have CCH := hid_of CC
                clear NC CC lenU
                go_wp2_with fail
                refine JC.out.mono ?_
                rintro e w9 ⟨rfl, N9, C9⟩
                rw [List.append_assoc, ← UFc.out] at N9
                have N9H := hid_of N9
                have C9H := hid_of (CCH.out.trans C9)
                clear JC N9 C9 CCH NCH b0 c2
                go_wp2_with fail
                go_roundw
                case rel => exact ⟨c + 1, by omega, by go_num, N9H.out, C9H.out⟩
                case measure => simp [intOf]; omega
              · obtain rfl : c = cf := by omega
                obtain ⟨L2, hL2⟩ : ∃ L2, L1 ++ upTo Sf X c = L2 := ⟨_, rfl⟩
                have hl2 : (L2.length : Int) = (L1.length : Int) + c := by rw [← hL2, List.length_append, upTo_len]; omega
                have T1c : Hid (gadTo cp k es (j + 1) = L2 ++ dnTo (X + 1) St ct) := by
                  show gadTo cp k es (j + 1) = _
                  rw [T1b.out, hL2]
                rw [hL2] at NC
                have NCH := hid_of NC
                have b1 := NC.box.f1
                have ckt := (I18.out.keep CC hq1n).cell htN
                rw [FT.out] at ckt
                have I19 := hid_of (I18.out.keep CC hq1n)
                have I29 := hid_of (I28.out.keep CC lq2)
                have K9 := hid_of (K8.out.ch CC (fun i hi => by omega))
                have hLl2 : (L2.length : Int) + ct ≤ 4096 := by omega
                clear NC CC I18 I28 K8 hL2 hl2 T1b UF hLl
                go_wp2_with fail
                go_loopw [17, 96] (fun _ i w3 => ∃ (c2 : Nat), c2 ≤ ct ∧ i = .int .i64 c2 ∧ NetE w3 nb nb eb A (L2 ++ dnTo (X + 1) St c2) (.int .i64 (f : Int)) (.int .i64 (t : Int)) ∧ Ch (fun k => nb ≤ k) wr w3) (fun _ i _ => ct - (intOf i).toNat)
                case atStart => exact ⟨0, by omega, rfl, by simpa [dnTo] using NCH.out, Ch.refl _ _⟩
                case round =>
                  obtain ⟨c2, hc2, rfl, NC, CC⟩ := hrel
                  clear NCH b1 ckt
                  by_cases hgo4 : (c2 : Int) < (ct : Int)
                  · have b1 := NC.box.f1
                    have c3 := (I29.out.keep CC lq2).cell htN
                    rw [FSt.out] at c3
                    have UTc := hid_of (UT.out c2)
                    have lenU := dnTo_len (X + 1) St c2
                    have NCH := hid_of NC
                    have JC := hid_of (join_calls (X + 1) (St + (c2 : Int)) nb nb eb A (L2 ++ dnTo (X + 1) St c2) _ _ wr NC (by rw [List.length_append, lenU]; omega))
                    have WS : IntKind.i64.wrap (St + (c2 : Int)) = St + (c2 : Int) := wrap_id (by omega) (by omega)
                    have CCH := hid_of CC
                    clear NC CC lenU
                    go_wp2_with fail
                    refine JC.out.mono ?_
                    rintro e w9 ⟨rfl, N9, C9⟩
                    rw [List.append_assoc, ← UTc.out] at N9
                    have N9H := hid_of N9
                    have C9H := hid_of (CCH.out.trans C9)
                    clear JC N9 C9 CCH NCH b1 c3
                    go_wp2_with fail
                    go_roundw
                    case rel => exact ⟨c2 + 1, by omega, by go_num, N9H.out, C9H.out⟩
                    case measure => simp [intOf]; omega
                  · obtain rfl : c2 = ct := by omega
                    rw [← T1c.out] at NC
                    have NF := hid_of NC.net
                    have I1F := hid_of (I19.out.keep CC hq1n)
                    have I2F := hid_of (I29.out.keep CC lq2)
                    have KF := hid_of (K9.out.ch CC (fun i hi => by omega))
                    clear NC CC I19 I29 K9 T1c UT
                    go_wp2_with fail
                    go_roundw
                    case rel => exact ⟨j + 1, by omega, by go_num, by rw [T2.out], NF.out, I1F.out, I2F.out, KF.out⟩
                    case measure => simp [intOf]; omega
        · obtain rfl : j = n := by omega
          have hN2 := NRH.out
          obtain ⟨fo, fc, m1, m2, m3⟩ := hN2.c1
          have m0 := hN2.c0
          have EF : Hid (ERow wr fo (gadTo cp k es j).length fc (gadTo cp k es j)) := ERow.of_owns m2
          have s0 := KH.out.cell RB.out.f0
          have s1 := KH.out.cell RB.out.f1
          have s2 := (Below.frozen (p := ⟨w.heap.size + 1, 0, none⟩) KH.out (lt_cell RB.out.f0)).trans (RFH.out 0)
          have s3 := (Below.frozen (p := ⟨w.heap.size + 1, 1, none⟩) KH.out (lt_cell RB.out.f1)).trans (RFH.out 1)
          have hlt : w.heap.size + 1 < nb := by omega
          obtain ⟨gl, hgl⟩ : ∃ gl, (gadTo cp k es j).length = gl := ⟨_, rfl⟩
          rw [hgl] at m1 m2
          obtain ⟨t1, t2, t3, t4⟩ := box2w s0 s1 (.int .i64 A) (.slice fo gl fc)
          have O2 := ownsRow_setCell_below (ownsRow_setCell_below m2 (a := ⟨w.heap.size + 1, 0, none⟩) hlt (.int .i64 A)) (a := ⟨w.heap.size + 1, 1, none⟩) hlt (.slice fo gl fc)
          have EF := hid_of (ERow.of_owns O2)
          have BF : Hid (∀ x, fo = some x → w.heap.size ≤ x.block) := fun x hx => by subst hx; have := (O2.lt x.block rfl).1; omega
          have KK := hid_of (((KWH.out.trans KH.out).setCell (p := ⟨w.heap.size + 1, 0, none⟩) (by simp) (.int .i64 A)).setCell (p := ⟨w.heap.size + 1, 1, none⟩) (by simp) (.slice fo gl fc))
          clear O2 m2 m3 hgl hN2 NRH I1H I2H K
          go_wp2
          refine bodyPost_ret (v := .agg #[.int .i64 A, .slice fo gl fc]) (by simp [results, Tryd.results74, go_sem, t3, t4]) rfl ⟨KK.out, .inr (.inr ⟨OK.out, by rw [HCP.out]; exact HF.out, fo, gl, fc, by rw [HCP.out, HAE.out], by rw [HCP.out]; exact EF.out, BF.out⟩)⟩

set_option maxRecDepth 100000 in
set_option linter.unusedSimpArgs false in
set_option maxHeartbeats 4000000 in
theorem gadLook2_calls (gb bb rb : Nat) (bo : Option Addr) (mb bc : Nat) (b : List Int) (N : Nat) (ao : Option Addr) (n cap : Nat) (es : List Ed) (w : World) (hG : GBox w gb (N : Int) ao n cap) (hb : w.cell? ⟨bb, 0, none⟩ = some (.slice bo mb bc)) (r0 : w.cell? ⟨rb, 0, none⟩ = some (.int .i64 0)) (r1 : w.cell? ⟨rb, 1, none⟩ = some (.slice none 0 0)) (rf : ∀ o, w.frozen? ⟨rb, o, none⟩ = false) (h : ERow w ao n cap es) (hJ : JRow w bo mb bc b) (RG : Right N n es) :
    Calls Tryd.prog 73 #[.pointer (some ⟨gb, 0, none⟩), .pointer (some ⟨bb, 0, none⟩), .pointer (some ⟨rb, 0, none⟩)] w fun e w' =>
      (¬ BndOk b mb N ∧ e = .panicked [{ v := .iface 140 (.agg #[.int .i64 130]), recovered := false }] ∧ Kept w w') ∨ (BndOk b mb N ∧ ¬ Fits (cpyOf es n b) N es n ∧ e = .panicked [{ v := .iface 140 (.agg #[.int .i64 3]), recovered := false }] ∧ Kept w w') ∨
      (BndOk b mb N ∧ Fits (cpyOf es n b) N es n ∧ e = .returned (.tuple #[]) ∧ ∃ ao' len' cap' wx, Kept w wx ∧ ERow wx ao' len' cap' (gadTo (cpyOf es n b) N es n) ∧ (∀ x, ao' = some x → w.heap.size ≤ x.block) ∧ w' = (wx.setCell ⟨rb, 0, none⟩ (.int .i64 (szN (cpyOf es n b) N es n))).setCell ⟨rb, 1, none⟩ (.slice ao' len' cap')) := by
  obtain ⟨g0, g1⟩ := hG
  have C := hid_of (gad_new N ao n cap es bo mb bc b w h hJ RG)
  have HR0 := hid_of r0
  have HR1 := hid_of r1
  have HRF := hid_of rf
  clear h hJ RG r0 r1 rf
  go_enter Tryd.func73, Tryd.ntmps73
  go_wp2_with fail
  refine C.out.mono ?_
  rintro e wa ⟨K1, ⟨ok, rfl⟩ | ⟨ok, fit, rfl⟩ | ⟨ok, fit, ao', len', cap', rfl, E1, BE⟩⟩
  · have HK := hid_of K1
    clear K1 C g0 g1 hb
    go_wp2
    exact ⟨rfl, .inl ⟨ok, rfl, HK.out⟩⟩
  · have HK := hid_of K1
    clear K1 C g0 g1 hb
    go_wp2
    exact ⟨rfl, .inr (.inl ⟨ok, fit, rfl, HK.out⟩)⟩
  · have s0 := K1.cell HR0.out
    have s1 := K1.cell HR1.out
    have s2 := (Below.frozen (p := ⟨rb, 0, none⟩) K1 (lt_cell HR0.out)).trans (HRF.out 0)
    have s3 := (Below.frozen (p := ⟨rb, 1, none⟩) K1 (lt_cell HR1.out)).trans (HRF.out 1)
    have HK := hid_of K1
    have EH := hid_of E1
    have BEH := hid_of BE
    have OK := hid_of ok
    have FT := hid_of fit
    clear K1 C g0 g1 hb E1 ok fit BE
    go_wp2
    exact bodyPost_end (v := .tuple #[]) (by simp [results, Tryd.results73]) rfl (.inr (.inr ⟨OK.out, FT.out, rfl, ao', len', cap', wa, HK.out, EH.out, BEH.out, rfl⟩))

open Classical in
/-- The edges that Gadget answers. -/
noncomputable def gadEs (nodes : Int) (es : List Ed) (n : Nat) (b : List Int) (mb : Nat) : List Ed :=
  if (faultOf nodes es).1 ≠ 0 then [] else if ¬ BndOk b mb nodes.toNat then [] else if ¬ Fits (cpyOf es n b) nodes.toNat es n then [] else gadTo (cpyOf es n b) nodes.toNat es n

set_option maxRecDepth 100000 in
set_option linter.unusedSimpArgs false in
set_option maxHeartbeats 4000000 in
theorem gadget2_calls (nodes : Int) (ao : Option Addr) (n cap : Nat) (es : List Ed) (bo : Option Addr) (mb bc : Nat) (b : List Int) (w : World) (h : ERow w ao n cap es) (hJ : JRow w bo mb bc b) (N' : Int) (l' : Nat) (code : Int) (hans : Hid (gadSize nodes es n b mb = (N', l', code))) (L : List Ed) (hL : Hid (gadEs nodes es n b mb = L)) :
    Calls Tryd.prog 30 #[.agg #[.int .i64 nodes, .slice ao n cap], .slice bo mb bc] w fun e w' => (∃ ao' cap', e = .returned (.tuple #[.agg #[.int .i64 N', .slice ao' l' cap'], .int .i64 code]) ∧ ERow w' ao' l' cap' L) ∧ Kept w w' := by
  have hmf : ∀ (fn : Fn) (first cap : Array Value) (w : World), (Instr.makeFunc fn first cap).run Tryd.prog w = .ok (.func fn first cap) w := fun _ _ _ _ => rfl
  have KW : Kept w ((((w.alloc (Obj.cells #[.int .i64 nodes, .slice ao n cap] 24)).alloc (Obj.cells #[Value.slice bo mb bc] 25)).alloc (Obj.cells #[.int .i64 0, .slice none 0 0] 24)).alloc (Obj.cells #[.int .i64 0, .slice none 0 0] 24)) := ((((Kept.refl w).alloc _).alloc _).alloc _).alloc _
  have hsz : ((((w.alloc (Obj.cells #[.int .i64 nodes, .slice ao n cap] 24)).alloc (Obj.cells #[Value.slice bo mb bc] 25)).alloc (Obj.cells #[.int .i64 0, .slice none 0 0] 24)).alloc (Obj.cells #[.int .i64 0, .slice none 0 0] 24)).heap.size = w.heap.size + 4 := by simp
  have hG : GBox ((((w.alloc (Obj.cells #[.int .i64 nodes, .slice ao n cap] 24)).alloc (Obj.cells #[Value.slice bo mb bc] 25)).alloc (Obj.cells #[.int .i64 0, .slice none 0 0] 24)).alloc (Obj.cells #[.int .i64 0, .slice none 0 0] 24)) w.heap.size nodes ao n cap := ⟨by simp [go_sem], by simp [go_sem]⟩
  have x1 : ((((w.alloc (Obj.cells #[.int .i64 nodes, .slice ao n cap] 24)).alloc (Obj.cells #[Value.slice bo mb bc] 25)).alloc (Obj.cells #[.int .i64 0, .slice none 0 0] 24)).alloc (Obj.cells #[.int .i64 0, .slice none 0 0] 24)).cell? ⟨w.heap.size + 1, 0, none⟩ = some (Value.slice bo mb bc) := by simp [go_sem]
  have y0 : ((((w.alloc (Obj.cells #[.int .i64 nodes, .slice ao n cap] 24)).alloc (Obj.cells #[Value.slice bo mb bc] 25)).alloc (Obj.cells #[.int .i64 0, .slice none 0 0] 24)).alloc (Obj.cells #[.int .i64 0, .slice none 0 0] 24)).cell? ⟨w.heap.size + 2, 0, none⟩ = some (.int .i64 0) := by simp [go_sem]
  have y1 : ((((w.alloc (Obj.cells #[.int .i64 nodes, .slice ao n cap] 24)).alloc (Obj.cells #[Value.slice bo mb bc] 25)).alloc (Obj.cells #[.int .i64 0, .slice none 0 0] 24)).alloc (Obj.cells #[.int .i64 0, .slice none 0 0] 24)).cell? ⟨w.heap.size + 2, 1, none⟩ = some (.slice none 0 0) := by simp [go_sem]
  have yf : ∀ o, ((((w.alloc (Obj.cells #[.int .i64 nodes, .slice ao n cap] 24)).alloc (Obj.cells #[Value.slice bo mb bc] 25)).alloc (Obj.cells #[.int .i64 0, .slice none 0 0] 24)).alloc (Obj.cells #[.int .i64 0, .slice none 0 0] 24)).frozen? ⟨w.heap.size + 2, o, none⟩ = false := fun o => by simp [go_sem]
  have z0 : ((((w.alloc (Obj.cells #[.int .i64 nodes, .slice ao n cap] 24)).alloc (Obj.cells #[Value.slice bo mb bc] 25)).alloc (Obj.cells #[.int .i64 0, .slice none 0 0] 24)).alloc (Obj.cells #[.int .i64 0, .slice none 0 0] 24)).cell? ⟨w.heap.size + 3, 0, none⟩ = some (.int .i64 0) := by simp [go_sem]
  have z1 : ((((w.alloc (Obj.cells #[.int .i64 nodes, .slice ao n cap] 24)).alloc (Obj.cells #[Value.slice bo mb bc] 25)).alloc (Obj.cells #[.int .i64 0, .slice none 0 0] 24)).alloc (Obj.cells #[.int .i64 0, .slice none 0 0] 24)).cell? ⟨w.heap.size + 3, 1, none⟩ = some (.slice none 0 0) := by simp [go_sem]
  have zf : ∀ o, ((((w.alloc (Obj.cells #[.int .i64 nodes, .slice ao n cap] 24)).alloc (Obj.cells #[Value.slice bo mb bc] 25)).alloc (Obj.cells #[.int .i64 0, .slice none 0 0] 24)).alloc (Obj.cells #[.int .i64 0, .slice none 0 0] 24)).frozen? ⟨w.heap.size + 3, o, none⟩ = false := fun o => by simp [go_sem]
  have ha := hans.out
  unfold gadSize at ha
  have NIL : Hid (∀ w : World, ERow w none 0 0 []) := fun w => ⟨rfl, Nat.le_refl _, by unfold maxLen; omega, fun h => by omega⟩
  have NOL : Hid (((faultOf nodes es).1 ≠ 0 ∨ ¬ BndOk b mb nodes.toNat ∨ ¬ Fits (cpyOf es n b) nodes.toNat es n) → L = []) := fun t => by
    rw [← hL.out]
    unfold gadEs
    rcases t with t | t | t
    · rw [if_pos t]
    · split
      · rfl
      · first | rfl | rw [if_pos t]
    · split
      · rfl
      · split
        · rfl
        · first | rfl | rw [if_pos t]
  have HE := hid_of h
  have HJ := hid_of hJ
  clear h hJ hans
  go_enter Tryd.func30, Tryd.ntmps30
  go_wp2_with fail
  generalize (((w.alloc (Obj.cells #[.int .i64 nodes, .slice ao n cap] 24)).alloc (Obj.cells #[Value.slice bo mb bc] 25)).alloc (Obj.cells #[.int .i64 0, .slice none 0 0] 24)).alloc (Obj.cells #[.int .i64 0, .slice none 0 0] 24) = W0 at KW hsz hG x1 y0 y1 yf z0 z1 zf ⊢
  have KWH := hid_of KW
  have HSZ := hid_of hsz
  have HGH := hid_of hG
  have Y0 := hid_of y0
  have Y1 := hid_of y1
  have YF := hid_of yf
  have Z0 := hid_of z0
  have Z1 := hid_of z1
  have ZF := hid_of zf
  have X1 := hid_of x1
  have HAA := hid_of ha
  clear KW hsz hG x1 y0 y1 yf z0 z1 zf ha
  have FIN : Hid (∀ (wa : World) (a c : Value), Kept w wa → wa.cell? ⟨w.heap.size + 2, 0, none⟩ = some (.int .i64 0) → wa.cell? ⟨w.heap.size + 2, 1, none⟩ = some (.slice none 0 0) →
    ((wa.setCell ⟨w.heap.size + 2, 0, none⟩ a).setCell ⟨w.heap.size + 2, 1, none⟩ c).cell? ⟨w.heap.size + 2, 0, none⟩ = some a ∧ ((wa.setCell ⟨w.heap.size + 2, 0, none⟩ a).setCell ⟨w.heap.size + 2, 1, none⟩ c).cell? ⟨w.heap.size + 2, 1, none⟩ = some c ∧ Kept w ((wa.setCell ⟨w.heap.size + 2, 0, none⟩ a).setCell ⟨w.heap.size + 2, 1, none⟩ c)) := fun wa a c K h0 h1 => by
    obtain ⟨-, -, t3, t4⟩ := box2w h0 h1 a c
    exact ⟨t3, t4, (K.setCell (p := ⟨w.heap.size + 2, 0, none⟩) (by simp) a).setCell (p := ⟨w.heap.size + 2, 1, none⟩) (by simp) c⟩
  obtain ⟨fc, fa, hf⟩ : ∃ fc fa, faultOf nodes es = (fc, fa) := ⟨_, _, rfl⟩
  by_cases hc : fc = 0
  rotate_left
  · have e := HAA.out
    rw [if_pos (by rw [hf]; exact hc), hf] at e
    obtain ⟨rfl, e2⟩ := Prod.mk.inj e
    obtain ⟨rfl, rfl⟩ := Prod.mk.inj e2
    have HL0 := hid_of (NOL.out (.inl (by rw [hf]; exact hc)))
    refine (looked_bad nodes ao n cap es W0 (HE.out.kept KWH.out) fc fa (hid_of hf) hc _).mono ?_
    rintro e wa ⟨rfl, K1⟩
    have z0 := K1.cell Z0.out
    have z1 := K1.cell Z1.out
    have y0 := K1.cell Y0.out
    have y1 := K1.cell Y1.out
    have f0 := (Below.frozen (p := ⟨w.heap.size + 2, 0, none⟩) K1 (lt_cell Y0.out)).trans (YF.out 0)
    have f1 := (Below.frozen (p := ⟨w.heap.size + 2, 1, none⟩) K1 (lt_cell Y1.out)).trans (YF.out 1)
    obtain ⟨t3, t4, KF⟩ := FIN.out wa (.int .i64 0) (.slice none 0 0) (KWH.out.trans K1) y0 y1
    have KFH := hid_of KF
    clear K1 KF e e2 hf HAA
    go_wp2
    refine bodyPost_ret (v := .tuple #[.agg #[.int .i64 0, .slice none 0 0], .int .i64 fc]) (by simp [results, Tryd.results30, go_sem, t3, t4]) rfl ⟨⟨none, 0, rfl, by rw [HL0.out]; exact NIL.out _⟩, KFH.out⟩
  subst hc
  have h0 : (faultOf nodes es).1 = 0 := by rw [hf]
  have hf0 := hid_of (fault_zero h0)
  obtain ⟨N, rfl, RG⟩ := right_of hf0.out
  rw [← HE.out.len] at RG
  have e := HAA.out
  rw [if_neg (by simp [h0]), Int.toNat_natCast] at e
  have LK := hid_of (fun w1 (K : Kept W0 w1) => gadLook2_calls w.heap.size (w.heap.size + 1) (w.heap.size + 3) bo mb bc b N ao n cap es w1 (HGH.out.kept K) (K.cell X1.out) (K.cell Z0.out) (K.cell Z1.out) (fun o => (Below.frozen (p := ⟨w.heap.size + 3, o, none⟩) K (by show w.heap.size + 3 < _; rw [HSZ.out]; omega)).trans (ZF.out o)) (HE.out.kept (KWH.out.trans K)) (HJ.out.kept (KWH.out.trans K)) RG)
  clear HAA hf h0 RG
  by_cases hok : BndOk b mb N ∧ Fits (cpyOf es n b) N es n
  · rw [if_neg (fun t => t hok.1), if_neg (fun t => t hok.2)] at e
    obtain ⟨rfl, e2⟩ := Prod.mk.inj e
    obtain ⟨rfl, rfl⟩ := Prod.mk.inj e2
    refine (looked_ok2 (N : Int) ao n cap es W0 (HE.out.kept KWH.out) hf0 73 #[.pointer (some ⟨w.heap.size, 0, none⟩), .pointer (some ⟨w.heap.size + 1, 0, none⟩), .pointer (some ⟨w.heap.size + 3, 0, none⟩)] (fun _ => rfl) (fun k => k = w.heap.size + 3)
      (fun w2 => ∃ ao' cap', w2.cell? ⟨w.heap.size + 3, 0, none⟩ = some (.int .i64 (szN (cpyOf es n b) N es n)) ∧ w2.cell? ⟨w.heap.size + 3, 1, none⟩ = some (.slice ao' (gadTo (cpyOf es n b) N es n).length cap') ∧ ERow w2 ao' (gadTo (cpyOf es n b) N es n).length cap' (gadTo (cpyOf es n b) N es n) ∧ ∀ x, ao' = some x → w.heap.size + 6 ≤ x.block) (fun k hk => by subst hk; rw [HSZ.out]; omega)
      (fun w1 K hw1 => (LK.out w1 K).mono fun e w3 hp => ?_)).mono ?_
    · rcases hp with ⟨h1, _⟩ | ⟨_, h1, _⟩ | ⟨_, _, h1, ao', len', cap', wx, Kx, Ex, Bx, rfl⟩
      · exact absurd hok.1 h1
      · exact absurd hok.2 h1
      · have hl := Ex.len
        subst hl
        obtain ⟨-, -, t3, t4⟩ := box2w (Kx.cell (K.cell Z0.out)) (Kx.cell (K.cell Z1.out)) (.int .i64 (szN (cpyOf es n b) N es n)) (.slice ao' (gadTo (cpyOf es n b) N es n).length cap')
        have hq : ∀ x, ao' = some x → w.heap.size + 6 ≤ x.block := fun x hx => by have := Bx x hx; have := HSZ.out; omega
        exact ⟨h1, ⟨ao', cap', t3, t4, (Ex.put _ (fun x hx => by have := hq x hx; omega)).put _ (fun x hx => by have := hq x hx; omega), hq⟩, Ch.setCell (F := fun k => k = w.heap.size + 3) (Ch.setCell (F := fun k => k = w.heap.size + 3) (Ch.of_kept Kx) (p := ⟨w.heap.size + 3, 0, none⟩) rfl _) (p := ⟨w.heap.size + 3, 1, none⟩) rfl _⟩
    · rintro e wa ⟨rfl, w2, ⟨ao', cap', hR0, hR1, ER, BQ⟩, C1, C2⟩
      obtain ⟨A, hA⟩ : ∃ A, szN (cpyOf es n b) N es n = A := ⟨_, rfl⟩
      obtain ⟨l9, hLg⟩ : ∃ L, (gadTo (cpyOf es n b) N es n).length = L := ⟨_, rfl⟩
      rw [hA] at hR0
      rw [hLg] at hR1 ER
      have HA := hid_of hA
      have HL := hid_of hLg
      have ER2 := ER.chg C2 (fun x hx => by have := BQ x hx; have := HSZ.out; omega)
      have HLL : Hid (L = gadTo (cpyOf es n b) N es n) := by
        show _ = _
        rw [← hL.out]
        unfold gadEs
        rw [if_neg (by rw [hf0.out]; simp), Int.toNat_natCast, if_neg (fun t => t hok.1), if_neg (fun t => t hok.2)]
      have z0 := C2.cell hR0 (by rw [HSZ.out]; omega)
      have z1 := C2.cell hR1 (by rw [HSZ.out]; omega)
      have y0 := C2.cell (C1.cell Y0.out (by omega)) (by rw [HSZ.out]; omega)
      have y1 := C2.cell (C1.cell Y1.out (by omega)) (by rw [HSZ.out]; omega)
      have C12 : Ch (fun k => k = w.heap.size + 3) W0 wa := C1.trans' C2 (fun i hi => .inr (by omega))
      have f0 := (C12.frozen (b := w.heap.size + 2) (o := 0) (by rw [HSZ.out]; omega) (by omega)).trans (YF.out 0)
      have f1 := (C12.frozen (b := w.heap.size + 2) (o := 1) (by rw [HSZ.out]; omega) (by omega)).trans (YF.out 1)
      have HK : Kept w wa := KWH.out.ch C12 (fun k hk => by subst hk; omega)
      obtain ⟨t3, t4, KF⟩ := FIN.out wa (.int .i64 A) (.slice ao' l9 cap') HK y0 y1
      have KFH := hid_of KF
      have P2 : ∀ x, ao' = some x → x.block ≠ w.heap.size + 2 := fun x hx => by have := BQ x hx; omega
      have E9 := hid_of ((ER2.put (q := w.heap.size + 2) (i := 0) (.int .i64 A) P2).put (q := w.heap.size + 2) (i := 1) (.slice ao' l9 cap') P2)
      clear KF HK hR0 hR1 C1 C2 C12 LK hA hLg e e2 ER ER2 BQ
      go_wp2
      refine bodyPost_ret (v := .tuple #[.agg #[.int .i64 A, .slice ao' l9 cap'], .int .i64 0]) (by simp [results, Tryd.results30, go_sem, t3, t4]) rfl ⟨⟨ao', cap', by rw [HA.out, HL.out], by rw [HL.out, HLL.out]; exact E9.out⟩, KFH.out⟩
  · have hcode : ∃ d : Int, code = d ∧ N' = 0 ∧ l' = 0 ∧ ((¬ BndOk b mb N ∧ d = 130) ∨ (BndOk b mb N ∧ d = 3)) := by
      by_cases hb : BndOk b mb N
      · rw [if_neg (fun t => t hb), if_pos (fun t => hok ⟨hb, t⟩)] at e
        obtain ⟨e1, e2⟩ := Prod.mk.inj e
        obtain ⟨e3, e4⟩ := Prod.mk.inj e2
        exact ⟨3, e4.symm, e1.symm, e3.symm, .inr ⟨hb, rfl⟩⟩
      · rw [if_pos hb] at e
        obtain ⟨e1, e2⟩ := Prod.mk.inj e
        obtain ⟨e3, e4⟩ := Prod.mk.inj e2
        exact ⟨130, e4.symm, e1.symm, e3.symm, .inl ⟨hb, rfl⟩⟩
    obtain ⟨d, rfl, rfl, rfl, hd⟩ := hcode
    have HL0 := hid_of (NOL.out (by
      rw [Int.toNat_natCast]
      by_cases hb : BndOk b mb N
      · exact .inr (.inr (fun t => hok ⟨hb, t⟩))
      · exact .inr (.inl hb)))
    refine (looked_no (N : Int) ao n cap es W0 (HE.out.kept KWH.out) hf0 73 #[.pointer (some ⟨w.heap.size, 0, none⟩), .pointer (some ⟨w.heap.size + 1, 0, none⟩), .pointer (some ⟨w.heap.size + 3, 0, none⟩)] (fun _ => rfl) code
      (fun w1 K => (LK.out w1 K).mono fun e w3 hp => ?_)).mono ?_
    · rcases hp with ⟨h1, h2, h3⟩ | ⟨h0, h1, h2, h3⟩ | ⟨h0, h1, _⟩
      · rcases hd with ⟨_, rfl⟩ | ⟨t, _⟩
        · exact ⟨h2, h3⟩
        · exact absurd t h1
      · rcases hd with ⟨t, _⟩ | ⟨_, rfl⟩
        · exact absurd h0 t
        · exact ⟨h2, h3⟩
      · exact absurd ⟨h0, h1⟩ hok
    · rintro e wa ⟨rfl, K1⟩
      have z0 := K1.cell Z0.out
      have z1 := K1.cell Z1.out
      have y0 := K1.cell Y0.out
      have y1 := K1.cell Y1.out
      have f0 := (Below.frozen (p := ⟨w.heap.size + 2, 0, none⟩) K1 (lt_cell Y0.out)).trans (YF.out 0)
      have f1 := (Below.frozen (p := ⟨w.heap.size + 2, 1, none⟩) K1 (lt_cell Y1.out)).trans (YF.out 1)
      obtain ⟨t3, t4, KF⟩ := FIN.out wa (.int .i64 0) (.slice none 0 0) (KWH.out.trans K1) y0 y1
      have KFH := hid_of KF
      clear K1 KF e LK hd hok
      go_wp2
      refine bodyPost_ret (v := .tuple #[.agg #[.int .i64 0, .slice none 0 0], .int .i64 code]) (by simp [results, Tryd.results30, go_sem, t3, t4]) rfl ⟨⟨none, 0, rfl, by rw [HL0.out]; exact NIL.out _⟩, KFH.out⟩
end Go.Proofs.YtpdppjngbbkbbaaDoor
