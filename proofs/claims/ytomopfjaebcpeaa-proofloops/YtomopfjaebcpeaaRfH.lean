/- The document's Postman and Apart. -/
import Derived.Test.YtomopfjaebcpeaaRfG
namespace Go.Proofs.Ytomopfjaebcpeaa
open Go.RowKit

theorem roundOk_iff {es : List Ed} {N n : Nat} {ts : List Int} {m : Nat} {pot : List Int} {mp : Nat} : RoundOk es N n ts m pot mp ↔ RoundsOk es N n ts m ∧ HangOk es n ∧ PotsOk pot mp N ∧ ∀ i, i < n → TurnOk es (zAt ts) (zAt pot) i :=
  ⟨fun t => ⟨⟨t.1, t.2.1⟩, t.2.2.1, t.2.2.2.1, t.2.2.2.2⟩, fun t => ⟨t.1.1, t.1.2, t.2.1, t.2.2.1, t.2.2.2⟩⟩

set_option maxRecDepth 100000 in
set_option linter.unusedSimpArgs false in
set_option maxHeartbeats 4000000 in
theorem postR_calls (nodes : Int) (ao : Option Addr) (n cap : Nat) (es : List Ed) (bo : Option Addr) (m bc : Nat) (ts : List Int) (po : Option Addr) (mp pc : Nat) (pot : List Int) (w : World) (h : ERow w ao n cap es) (hJ : JRow w bo m bc ts) (hP : JRow w po mp pc pot) (v code : Int) (hans : Hid (postAns nodes es n ts m pot mp = (v, code))) :
    Calls Try.prog 28 #[.agg #[.int .i64 nodes, .slice ao n cap], .slice bo m bc, .slice po mp pc] w fun e w' => e = .returned (.tuple #[.int .i64 v, .int .i64 code]) ∧ Kept w w' := by
  have hr2 := hJ.room
  have hm2 := hJ.most
  have hr4 := h.room
  have hm4 := h.most
  unfold maxLen at hm2 hm4
  have KW : Kept w (w.alloc (Obj.cells #[.int .i64 nodes, .slice ao n cap] 24)) := (Kept.refl w).alloc _
  have w0 : (w.alloc (Obj.cells #[.int .i64 nodes, .slice ao n cap] 24)).cell? ⟨w.heap.size, 0, none⟩ = some (.int .i64 nodes) := by simp [go_sem]
  have w1 : (w.alloc (Obj.cells #[.int .i64 nodes, .slice ao n cap] 24)).cell? ⟨w.heap.size, 1, none⟩ = some (.slice ao n cap) := by simp [go_sem]
  have HE := hid_of h
  have HJ := hid_of hJ
  have HP := hid_of hP
  obtain ⟨z, hz⟩ : ∃ z, costCode nodes es n = z := ⟨_, rfl⟩
  have SC := hid_of (costsR_calls nodes ao n cap es _ (h.kept KW) z (hid_of hz))
  replace hans := hans.out
  unfold postAns at hans
  unfold costCode at hz
  have hnot : ∀ (x : Bool) (w : World), (Op.unary .not (.bool x)).run Try.prog w = .ok (.bool (!x)) w := fun _ _ => rfl
  clear h hJ hP
  by_cases hne : z = 0
  rotate_left
  · obtain ⟨rfl, rfl⟩ : v = 0 ∧ code = z := by
      split at hans
      · rename_i q; rw [if_pos q] at hz; obtain ⟨rfl, rfl⟩ := Prod.mk.inj hans; exact ⟨rfl, hz⟩
      · rename_i q
        rw [if_neg q] at hz
        split at hans
        · rename_i q; rw [if_pos q] at hz; obtain ⟨rfl, rfl⟩ := Prod.mk.inj hans; exact ⟨rfl, hz⟩
        · rename_i q; rw [if_neg q] at hz; exact absurd hz.symm hne
    have q : (code != 0) = true := by simpa using hne
    clear hans hz
    go_enter Try.func28, Try.ntmps28
    go_wp2_with fail
    refine SC.out.mono ?_
    rintro e wa ⟨rfl, K1⟩
    have HK := hid_of (KW.trans K1)
    clear KW K1 SC w0 w1
    go_wp2
    go_ret2
    exact ⟨rfl, HK.out⟩
  subst hne
  have hc0 : (faultOf nodes es).1 = 0 := by
    by_cases q : (faultOf nodes es).1 = 0
    · exact q
    · rw [if_pos q] at hz; exact absurd hz q
  rw [if_neg (by simp [hc0])] at hans hz
  have hf := fault_zero hc0
  obtain ⟨N, rfl, RG⟩ := right_of hf
  rw [← HE.out.len] at RG
  simp only [Int.toNat_natCast] at hans
  have hcos : CostsOk es n := by
    by_cases q : CostsOk es n
    · exact q
    · rw [if_pos q] at hz; exact absurd hz (by decide)
  rw [if_neg (fun t => t hcos)] at hans
  have HA := hid_of hans
  have RGH := hid_of RG
  have HF := hid_of hf
  clear hans hz hc0 RG hf hcos
  go_enter Try.func28, Try.ntmps28
  go_wp2_with fail
  refine SC.out.mono ?_
  rintro e wa ⟨rfl, K1⟩
  replace w0 := K1.cell w0
  replace w1 := K1.cell w1
  have HK := hid_of (KW.trans K1)
  clear KW K1 SC
  go_wp2_with fail
  refine (roundsR_calls ao N n cap es bo m bc ts wa (HE.out.kept HK.out) (HJ.out.kept HK.out) RGH.out).mono ?_
  rintro e wb ⟨K2, ⟨fit, rfl⟩ | ⟨fit, rfl⟩⟩
  rotate_left
  · have e := HA.out
    rw [if_neg (fun t => fit (roundOk_iff.1 t).1)] at e
    obtain ⟨rfl, rfl⟩ := Prod.mk.inj e
    have HK3 := hid_of (HK.out.trans K2)
    clear HA e fit K2 HK w0 w1
    go_wp2
    go_ret2
    exact ⟨rfl, HK3.out⟩
  replace w0 := K2.cell w0
  replace w1 := K2.cell w1
  have HK2 := hid_of (HK.out.trans K2)
  have FIT := hid_of fit
  clear K2 HK fit
  go_wp2_with fail
  refine (togR_calls ao N n cap es wb (HE.out.kept HK2.out) RGH.out HF).mono ?_
  rintro e wc ⟨K3, ⟨tok, rfl⟩ | ⟨tok, rfl⟩⟩
  rotate_left
  · have e := HA.out
    rw [if_neg (fun t => tok (roundOk_iff.1 t).2.1)] at e
    obtain ⟨rfl, rfl⟩ := Prod.mk.inj e
    have HK3 := hid_of (HK2.out.trans K3)
    clear HA e tok K3 HK2 w0 w1
    go_wp2
    go_ret2
    exact ⟨rfl, HK3.out⟩
  replace w0 := K3.cell w0
  replace w1 := K3.cell w1
  have HK3 := hid_of (HK2.out.trans K3)
  have TOG := hid_of tok
  clear K3 HK2 tok
  go_wp2_with fail
  refine (potsR_calls N (.slice ao n cap) po mp pc pot wc (HP.out.kept HK3.out)).mono ?_
  rintro e wd ⟨K4, ⟨pok, rfl⟩ | ⟨pok, rfl⟩⟩
  rotate_left
  · have e := HA.out
    rw [if_neg (fun t => pok (roundOk_iff.1 t).2.2.1)] at e
    obtain ⟨rfl, rfl⟩ := Prod.mk.inj e
    have HK4 := hid_of (HK3.out.trans K4)
    clear HA e pok K4 HK3 w0 w1
    go_wp2
    go_ret2
    exact ⟨rfl, HK4.out⟩
  replace w0 := K4.cell w0
  replace w1 := K4.cell w1
  have HK4 := hid_of (HK3.out.trans K4)
  have POK := hid_of pok
  clear K4 HK3 pok
  obtain rfl : m = n := FIT.out.1.1
  obtain rfl : mp = N := POK.out.1
  have SM := hid_of (times_small FIT.out.1)
  have CR := hid_of (fun (e : Ed) (w' : World) (K : Kept wd w') (h1 : 0 ≤ e.f) (h2 : e.f < (mp : Int)) (h3 : 0 ≤ e.t) (h4 : e.t < (mp : Int)) (h5 : -1048576 ≤ e.k) (h6 : e.k ≤ 1048576) => reducedR_calls e mp po pc pot w' (HP.out.kept (HK4.out.trans K)) h1 h2 h3 h4 h5 h6 POK.out.2)
  go_wp2_with fail
  go_loopw [9, 10] (fun i _ wr => ∃ (k : Nat), k ≤ m ∧ i = .int .i64 k ∧ Kept wd wr ∧ ∀ j, j < k → TurnOk es (zAt ts) (zAt pot) j) (fun i _ _ => m - (intOf i).toNat)
  case atStart => exact ⟨0, by omega, rfl, Kept.refl _, fun i hi => by omega⟩
  case round =>
    obtain ⟨k, hk, rfl, K, hno⟩ := hrel
    have HNO := hid_of hno
    clear hno
    replace w1 := K.cell w1
    by_cases hgo2 : (k : Int) < (m : Int)
    · obtain ⟨b, off, rfl, hc⟩ := (HE.out.kept (HK4.out.trans K)).cell (by omega)
      obtain ⟨d1, d2, d3, d4⟩ := hc k (by omega)
      obtain ⟨e1, e2, e3, e4⟩ := RGH.out.ends k (by omega)
      obtain ⟨l1, l2⟩ := RGH.out.costs k (by omega)
      obtain ⟨x1, x2⟩ := FIT.out.1.2 k (by omega)
      obtain ⟨b2, off2, rfl, hc2⟩ := (HJ.out.kept (HK4.out.trans K)).at (by omega)
      have d5 := hc2 k (by omega)
      clear hc hc2
      have HIT : Hid (TurnOk es (zAt ts) (zAt pot) k → ∀ j, j < k + 1 → TurnOk es (zAt ts) (zAt pot) j) := fun hb i hi => by
        by_cases e : i = k
        · subst e; exact hb
        · exact HNO.out i (by omega)
      have MISS : Hid (¬ TurnOk es (zAt ts) (zAt pot) k → v = 0 ∧ code = 221) := fun hb => by
        have e := HA.out
        rw [if_neg (fun t => hb ((roundOk_iff.1 t).2.2.2 k (by omega)))] at e
        obtain ⟨rfl, rfl⟩ := Prod.mk.inj e
        exact ⟨rfl, rfl⟩
      have C1 := hid_of (fun w' K => CR.out (edAt es k) w' K e1 e2 e3 e4 l1 l2)
      unfold TurnOk redOf at HIT MISS
      clear e1 e2 e3 e4 l1 l2
      generalize (edAt es k).k + zAt pot (edAt es k).f.toNat - zAt pot (edAt es k).t.toNat = r at HIT MISS C1
      generalize zAt ts k = x at d5 HIT MISS x1 x2
      generalize edAt es k = e at d1 d2 d3 d4 C1
      obtain ⟨ef, et, ec, ek⟩ := e
      simp only at d1 d2 d3 d4 C1
      go_wp2_with fail
      refine (C1.out _ K).mono ?_
      rintro e w5 ⟨rfl, K5⟩
      replace d5 := K5.cell d5
      replace w1 := K5.cell w1
      have KN := hid_of (K.trans K5)
      clear K K5 C1 d1 d2 d3 d4
      by_cases hr0 : r = 0
      · have P := hid_of (HIT.out (.inl hr0))
        subst hr0
        clear HIT MISS
        go_wp2_with fail
        go_roundw
        case rel => exact ⟨k + 1, by omega, by go_num, KN.out, P.out⟩
        case measure => simp [intOf]; omega
      by_cases hrp : 0 < r
      · have qr : decide (0 < r) = true := decide_eq_true hrp
        have qr2 : decide (r < 0) = false := decide_eq_false (by omega)
        by_cases hx : x = 1
        · have P := hid_of (HIT.out (.inr ⟨hrp, hx⟩))
          subst hx
          clear HIT MISS
          go_wp2_with fail
          go_roundw
          case rel => exact ⟨k + 1, by omega, by go_num, KN.out, P.out⟩
          case measure => simp [intOf]; omega
        · obtain ⟨rfl, rfl⟩ := MISS.out (fun t => by rcases t with t | t; exact hr0 t; exact hx t.2)
          have qx : decide (1 < x) = true := decide_eq_true (by omega)
          clear HIT MISS
          go_wp2_with fail
          go_ret2
          exact ⟨rfl, HK4.out.trans KN.out⟩
      · obtain ⟨rfl, rfl⟩ := MISS.out (fun t => by rcases t with t | t; exact hr0 t; exact hrp t.1)
        have qr2 : decide (r < 0) = true := decide_eq_true (by omega)
        clear HIT MISS
        go_wp2_with fail
        go_ret2
        exact ⟨rfl, HK4.out.trans KN.out⟩
    · obtain rfl : k = m := by omega
      have e := HA.out
      rw [if_pos (roundOk_iff.2 ⟨FIT.out, TOG.out, POK.out, HNO.out⟩)] at e
      obtain ⟨rfl, rfl⟩ := Prod.mk.inj e
      have CC := hid_of (totalR_calls (mp : Int) ao mp k cap es bo bc ts wr (HE.out.kept (HK4.out.trans K)) (HJ.out.kept (HK4.out.trans K)) RGH.out SM.out)
      replace w0 := K.cell w0
      have HK5 := hid_of (HK4.out.trans K)
      clear CR HNO K HA e
      go_wp2_with fail
      refine CC.out.mono ?_
      rintro e w6 ⟨rfl, K6⟩
      have HK6 := hid_of (HK5.out.trans K6)
      clear HK5 K6 CC w0 w1
      go_wp2
      go_ret2
      exact ⟨rfl, HK6.out⟩
end Go.Proofs.Ytomopfjaebcpeaa
