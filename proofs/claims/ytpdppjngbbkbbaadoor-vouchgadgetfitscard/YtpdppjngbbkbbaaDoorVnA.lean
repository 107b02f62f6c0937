/- The document's Most: a largest matching, by trying all. -/
import Derived.Test.YtpdppjngbbkbbaaDoorVmZ
namespace Go.Proofs.YtpdppjngbbkbbaaDoor
open Go.RowKit

theorem mostN_le : ∀ (k : Nat) (es : List Ed), es.length ≤ k → mostN es ≤ es.length := by
  intro k
  induction k with
  | zero =>
    intro es h
    obtain rfl : es = [] := List.length_eq_zero_iff.1 (by omega)
    rw [mostN_nil]
    exact Nat.zero_le _
  | succ k ih =>
    intro es h
    cases es with
    | nil => rw [mostN_nil]; exact Nat.zero_le _
    | cons e r =>
      have hr : r.length ≤ k := by simp at h; omega
      have a := ih r hr
      have lf := List.length_filter_le (awayE e) r
      have b := ih (r.filter (awayE e)) (by omega)
      rw [mostN_cons, List.length_cons]
      split <;> omega
theorem drop_at {es : List Ed} {i : Nat} (h : i < es.length) : es.drop i = edAt es i :: es.drop (i + 1) := by
  have e : es[i] = edAt es i := by simp [edAt, List.getD, h]
  rw [List.drop_eq_getElem_cons h, e]
/-- Trying goes on. -/
theorem most_step {es : List Ed} {i bl : Nat} (h : i < es.length) (hm : max bl (mostN (es.drop i)) = mostN es) : max (max bl (if (edAt es i).f = (edAt es i).t then 0 else 1 + mostN ((es.drop (i + 1)).filter (awayE (edAt es i))))) (mostN (es.drop (i + 1))) = mostN es := by
  rw [drop_at h, mostN_cons] at hm
  omega

set_option maxRecDepth 100000 in
set_option linter.unusedSimpArgs false in
set_option maxHeartbeats 4000000 in
theorem mostR_calls : ∀ (K : Nat) (nodes : Int) (ao : Option Addr) (n cap : Nat) (es : List Ed) (w : World), ERow w ao n cap es → n < K → n ≤ 4096 →
    Calls Tryd.prog 43 #[.agg #[.int .i64 nodes, .slice ao n cap]] w fun r w' => ∃ so l sc ws, r = .returned (.slice so l sc) ∧ l = mostN es ∧ JRow w' so l sc ws ∧ (∀ j, j < l → 0 ≤ zAt ws j ∧ zAt ws j < (n : Int)) ∧ Kept w w' := by
  intro K
  induction K with
  | zero => intro _ _ n _ _ _ _ h; omega
  | succ K ih =>
  intro nodes ao n cap es w h hnK hn
  obtain ⟨j0, ji, jz0, jz1, jz2⟩ := infoJ
  have hr1 := h.room
  have hm1 := h.most
  unfold maxLen at hm1
  have hlen := hid_of h.len
  have KW : Kept w (w.alloc (Obj.cells #[.int .i64 nodes, .slice ao n cap] 24)) := (Kept.refl w).alloc _
  have w0 : (w.alloc (Obj.cells #[.int .i64 nodes, .slice ao n cap] 24)).cell? ⟨w.heap.size, 0, none⟩ = some (.int .i64 nodes) := by simp [go_sem]
  have w1 : (w.alloc (Obj.cells #[.int .i64 nodes, .slice ao n cap] 24)).cell? ⟨w.heap.size, 1, none⟩ = some (.slice ao n cap) := by simp [go_sem]
  have HE := hid_of h
  have IH := hid_of ih
  clear h ih
  go_enter Tryd.func43, Tryd.ntmps43
  go_wp2_with fail
  generalize w.alloc (Obj.cells #[.int .i64 nodes, .slice ao n cap] 24) = W1 at KW w0 w1 ⊢
  have KWH := hid_of KW
  have W0H := hid_of w0
  have W1H := hid_of w1
  have NIL : Hid (JRow W1 none 0 0 []) := ⟨rfl, Nat.le_refl _, by unfold maxLen; omega, fun h => by omega⟩
  have MS := hid_of (fun i bl h hm => most_step (es := es) (i := i) (bl := bl) h hm)
  have ML := hid_of (show mostN es ≤ n by rw [hlen.out]; exact mostN_le _ es (Nat.le_refl _))
  clear KW w0 w1
  go_loopw [3, 4] (fun bv iv wr => ∃ (i bl : Nat) (bo : Option Addr) (bc : Nat) (ws : List Int), i ≤ n ∧ iv = .int .i64 i ∧ bv = .slice bo bl bc ∧ JRow wr bo bl bc ws ∧ Kept W1 wr ∧ max bl (mostN (es.drop i)) = mostN es ∧ (∀ j, j < bl → 0 ≤ zAt ws j ∧ zAt ws j < (n : Int))) (fun _ iv _ => n - (intOf iv).toNat)
  case atStart => exact ⟨0, 0, none, 0, [], by omega, rfl, rfl, NIL.out, Kept.refl _, by simp, fun j hj => by omega⟩
  case round =>
    obtain ⟨i, bl, bo, bc, ws, hin, rfl, rfl, BR, K0, hmx, hws⟩ := hrel
    have BRH := hid_of BR
    have KH := hid_of K0
    have w0 := K0.cell W0H.out
    have w1 := K0.cell W1H.out
    have HMX := hid_of hmx
    have HWS := hid_of hws
    have br := BR.room
    have bm := BR.most
    unfold maxLen at bm
    have blb : bl ≤ 4096 := by have := ML.out; have := HMX.out; omega
    clear BR hmx hws NIL
    by_cases hgo : (i : Int) < (n : Int)
    · obtain ⟨b, off, rfl, hc⟩ := (HE.out.kept (KWH.out.trans K0)).cell (by omega)
      obtain ⟨d1, d2, -, -⟩ := hc i (by omega)
      have STEP := hid_of (MS.out i bl (by rw [← hlen.out]; omega) HMX.out)
      have WC := hid_of (fun w' (K' : Kept W1 w') => withoutR_calls nodes (some ⟨b, off, none⟩) n cap es i (by omega) hn w' (HE.out.kept (KWH.out.trans K')) _ (hid_of rfl))
      have RL : Hid (((es.drop (i + 1)).filter (awayE (edAt es i))).length < K) := by
        show _ < K
        refine Nat.lt_of_le_of_lt (List.length_filter_le _ _) ?_
        rw [List.length_drop, ← hlen.out]
        omega
      have RN : Hid (((es.drop (i + 1)).filter (awayE (edAt es i))).length ≤ n) := by
        show _ ≤ n
        refine Nat.le_trans (List.length_filter_le _ _) ?_
        rw [List.length_drop, ← hlen.out]
        omega
      generalize (es.drop (i + 1)).filter (awayE (edAt es i)) = R at STEP WC RL RN
      generalize edAt es i = x at d1 d2 STEP
      obtain ⟨ef, et, ec, ek⟩ := x
      simp only at d1 d2 STEP
      clear hc K0
      by_cases hft : ef = et
      · have q : (ef == et) = true := by simpa using hft
        rw [if_pos hft] at STEP
        clear hft WC RL
        go_wp2_with fail
        go_quiet (fail)
        clear d1 d2 w0 w1
        go_wp2_with fail
        go_roundw
        case rel => exact ⟨i + 1, bl, bo, bc, ws, by omega, by go_num, rfl, BRH.out.kept ((Kept.refl _).drewN _), KH.out.drewN _, by have := STEP.out; omega, HWS.out⟩
        case measure => simp [intOf]; omega
      · have q : (ef == et) = false := by simpa using hft
        rw [if_neg hft] at STEP
        clear hft
        go_wp2_with fail
        go_quiet (fail)
        clear d1 d2
        have BR1 := hid_of (BRH.out.kept ((Kept.refl wr).drewN nq))
        replace w0 := ((Kept.refl wr).drewN nq).cell w0
        replace w1 := ((Kept.refl wr).drewN nq).cell w1
        have KH1 := hid_of (KH.out.drewN nq)
        clear BRH KH
        generalize wr.drewN nq = wr at BR1 w0 w1 KH1 ⊢
        go_wp2_with fail
        refine (WC.out _ KH1.out).mono ?_
        rintro r wa ⟨ao2, m, cap2, so, sc, us, rfl, ER, UR, hus, K1⟩
        have hmR := hid_of ER.len
        have ERH := hid_of ER
        have URH := hid_of UR
        have HUS := hid_of hus
        have KA := hid_of (KH1.out.trans K1)
        have BR2 := hid_of (BR1.out.kept K1)
        have mK : m < K := by rw [hmR.out]; exact RL.out
        have mN : m ≤ n := by rw [hmR.out]; exact RN.out
        clear ER UR hus K1 w0 w1 WC BR1 KH1 RL
        go_upto_region 7 with fail
        have KB : Kept wa (wa.alloc (Obj.cells #[.int .i64 nodes, .slice ao2 m cap2] 24)) := (Kept.refl wa).alloc _
        have r0 : (wa.alloc (Obj.cells #[.int .i64 nodes, .slice ao2 m cap2] 24)).cell? ⟨wa.heap.size, 0, none⟩ = some (.int .i64 nodes) := by simp [go_sem]
        have r1 : (wa.alloc (Obj.cells #[.int .i64 nodes, .slice ao2 m cap2] 24)).cell? ⟨wa.heap.size, 1, none⟩ = some (.slice ao2 m cap2) := by simp [go_sem]
        generalize wa.alloc (Obj.cells #[.int .i64 nodes, .slice ao2 m cap2] 24) = wb at KB r0 r1 ⊢
        have ERB := hid_of (ERH.out.kept KB)
        have URB := hid_of (URH.out.kept KB)
        have BRB := hid_of (BR2.out.kept KB)
        have KBH := hid_of (KA.out.trans KB)
        clear KB ERH URH BR2 KA
        go_wp2_with fail
        refine (IH.out nodes ao2 m cap2 R wb ERB.out mK (by omega)).mono ?_
        rintro r wc ⟨mo, lm, mc, ms, rfl, hlm, MR, hms, K2⟩
        have lmm : lm ≤ m := by rw [hlm, hmR.out]; exact mostN_le _ R (Nat.le_refl _)
        have HLM := hid_of hlm
        have MRH := hid_of MR
        have HMS := hid_of hms
        have URC := hid_of (URB.out.kept K2)
        have BRC := hid_of (BRB.out.kept K2)
        have KC := hid_of (KBH.out.trans K2)
        have mr := MR.room
        have mm := MR.most
        unfold maxLen at mm
        have WR : IntKind.i64.wrap ((lm : Int) + 1) = (lm : Int) + 1 := wrap_id (by omega) (by omega)
        clear hlm MR hms K2 r0 r1 ERB URB BRB KBH
        go_upto_region 8 with fail
        by_cases hgt : bl < lm + 1
        · have qd : decide ((bl : Int) < (lm : Int) + 1) = true := decide_eq_true (by omega)
          have qn : (bl : Int) < (lm : Int) + 1 := by omega
          clear BRC
          go_upto_region 10 with fail
          have OL := World.ownsRow_lit (base := wc.heap.size) (e := 3) (size := 1) wc #[.int .i64 (i : Int)] 1 (Nat.le_refl _) (by unfold maxLen; omega) rfl
          have KL : Kept wc (wc.alloc (Obj.cells #[.int .i64 (i : Int)] 3)) := (Kept.refl wc).alloc _
          have OLH := hid_of (show (wc.alloc (Obj.cells #[.int .i64 (i : Int)] 3)).ownsRow wc.heap.size 3 1 (.slice (some ⟨wc.heap.size, 0, none⟩) 1 1) 1 (jvals [(i : Int)]) from OL)
          have KLH := hid_of KL
          clear OL KL qd
          generalize wc.alloc (Obj.cells #[.int .i64 (i : Int)] 3) = wd at OLH KLH ⊢
          have R1 : Hid (∀ j, j < ([(i : Int)] : List Int).length → 0 ≤ zAt [(i : Int)] j ∧ zAt [(i : Int)] j < (n : Int)) := fun j hj => by
            obtain rfl : j = 0 := by simp at hj; omega
            simp only [zAt, List.getD]
            simp
            omega
          go_wp2_with fail
          go_loopw [3, 8] (fun bv kv wz => ∃ (k : Nat) (vs : List Int), k ≤ lm ∧ kv = .int .i64 k ∧ wz.ownsRow wc.heap.size 3 1 bv (k + 1) (jvals vs) ∧ vs.length = k + 1 ∧ Kept wc wz ∧ (∀ j, j < vs.length → 0 ≤ zAt vs j ∧ zAt vs j < (n : Int))) (fun _ kv _ => lm - (intOf kv).toNat)
          case atStart => exact ⟨0, [(i : Int)], by omega, rfl, OLH.out, rfl, KLH.out, R1.out⟩
          case round =>
            obtain ⟨k, vs, hk, rfl, OR, hvl, KZ, hvs⟩ := hrel
            obtain ⟨vo, vc, rfl⟩ := owns_slice1j OR
            have ORH := hid_of OR
            have HVS := hid_of hvs
            have KZH := hid_of KZ
            have HVL := hid_of hvl
            clear OR hvs hvl OLH KLH R1
            by_cases hgo2 : (k : Int) < (lm : Int)
            · obtain ⟨mb, moff, rfl, hmc⟩ := (MRH.out.kept KZ).at (by omega)
              have c1 := hmc k (by omega)
              obtain ⟨u0, u1⟩ := HMS.out k (by omega)
              obtain ⟨u, hu⟩ : ∃ u : Nat, zAt ms k = (u : Int) := ⟨(zAt ms k).toNat, by omega⟩
              rw [hu] at c1 u0 u1
              obtain ⟨ub, uoff, rfl, huc⟩ := (URC.out.kept KZ).at (by omega)
              have c2 := huc u (by omega)
              have zr := HUS.out u (by omega)
              generalize zAt us u = z at c2 zr
              have NW := hid_of (cell_newj wr 3 (.int .i64 z))
              have HM := hid_of (World.ownsRow.alloc ORH.out (Obj.cells #[.int .i64 z] 3))
              have hbw : wc.heap.size ≤ wr.heap.size := KZ.size
              clear hmc huc hu KZ hgt qn
              go_wp2_with (at_builtin; refine wpList_append_own_at _ rfl _ _ 25 rfl wc.heap.size 3 j0 (.int .i64 0) 1 8 Tryd.underlying25 ji jz0 jz1 jz2 rfl (by decide) _ _ _ rfl HM.out ⟨wr.heap.size, 0, none⟩ 1 1 [.int .i64 z] rfl rfl NW.out (by intro u hu; simp at hu; subst hu; rfl) (by unfold maxLen; omega) (by omega) (by simp; omega) ?_)
              intro u' w8 own grow _ _
              have OF : Hid (w8.ownsRow wc.heap.size 3 1 u' (k + 1 + 1) (jvals (vs ++ [z]))) := by
                show w8.ownsRow wc.heap.size 3 1 u' (k + 1 + 1) (jvals (vs ++ [z]))
                rw [← jvals_snoc]
                exact own
              have LF : Hid ((vs ++ [z]).length = k + 1 + 1) := by show _ = _; rw [List.length_append, HVL.out]; rfl
              have WF := hid_of (rng_snoc HVS.out zr)
              have KA : Kept wc (wr.alloc (Obj.cells #[.int .i64 z] 3)) := KZH.out.alloc _
              have KF : Hid (Kept wc w8) := Below.grown KA grow KA.size (fun kk e => (ORH.out.lt kk e).1)
              clear own grow HM NW ORH KA KZH c1 c2
              go_wp2_with fail
              go_roundw
              case rel => exact ⟨k + 1, vs ++ [z], by omega, by go_num, OF.out, LF.out, KF.out, WF.out⟩
              case measure => simp [intOf]; omega
            · obtain rfl : k = lm := by omega
              have JF := hid_of (JRow.of_owns ORH.out)
              have KF := hid_of (KC.out.trans KZ)
              have HF : Hid (max (k + 1) (mostN (es.drop (i + 1))) = mostN es) := by
                have a := STEP.out
                have b := HLM.out
                show _ = _
                omega
              clear KZ hgt
              go_wp2_with fail
              go_roundw
              case rel => exact ⟨i + 1, k + 1, vo, vc, vs, by omega, by go_num, rfl, JF.out, KF.out, HF.out, fun j hj => HVS.out j (by rw [HVL.out]; exact hj)⟩
              case measure => simp [intOf]; omega
        · have qd : decide ((bl : Int) < (lm : Int) + 1) = false := decide_eq_false (by omega)
          have qn : ¬ (bl : Int) < (lm : Int) + 1 := by omega
          have HF : Hid (max bl (mostN (es.drop (i + 1))) = mostN es) := by
            have a := STEP.out
            have b := HLM.out
            show _ = _
            omega
          clear STEP HLM hgt
          go_wp2_with fail
          go_roundw
          case rel => exact ⟨i + 1, bl, bo, bc, ws, by omega, by go_num, rfl, BRC.out, KC.out, HF.out, HWS.out⟩
          case measure => simp [intOf]; omega
    · obtain rfl : i = n := by omega
      have E : Hid (bl = mostN es) := by
        have := HMX.out
        rw [hlen.out, List.drop_length, mostN_nil] at this
        show _ = _
        omega
      have KF := hid_of (KWH.out.trans K0)
      clear K0 KH w0 HMX
      go_wp2
      go_ret
      exact ⟨bo, bl, bc, rfl, E.out, ws, BRH.out, HWS.out, KF.out⟩
end Go.Proofs.YtpdppjngbbkbbaaDoor
