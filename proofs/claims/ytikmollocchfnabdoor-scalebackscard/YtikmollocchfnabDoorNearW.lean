/- Rounding to the nearest float64, in the document: the walk. -/
import Derived.Test.YtikmollocchfnabDoorNearR
namespace Go.Proofs.YtikmollocchfnabDoor
open Go.RowKit

theorem nat_ex' (x : Nat) : ∃ y, x = y := ⟨x, rfl⟩

def sgnWord (neg : Bool) : Nat := if neg = true then 9223372036854775808 else 0
theorem word_sum (neg : Bool) (r : Nat) : Ieee.double.word neg r = sgnWord neg + r := by
  cases neg
  · show r = 0 + r; omega
  · rfl

set_option maxRecDepth 100000 in
set_option maxHeartbeats 4000000 in
theorem nearR_calls (neg : Bool) (m : Nat) (e : Int) (s : Bool) (hm : m < 18446744073709551616) (w : World) :
    Calls Tryd.prog 28 #[.bool neg, .int .u64 (m : Int), .int .i64 e, .bool s] w fun r w' => r = .returned (.int .u64 ((nearWord neg m e s : Nat) : Int)) ∧ w = w' := by
  by_cases hm0 : m = 0
  · subst hm0
    have e1 : nearWord neg 0 e s = 0 := by unfold nearWord; rw [if_pos rfl]
    rw [e1]
    clear e1
    cases neg <;>
    · go_enter Tryd.func28, Tryd.ntmps28
      go_wp2
      go_ret
      exact ⟨rfl, rfl⟩
  have hS : sgnWord neg = 0 ∨ sgnWord neg = 9223372036854775808 := by unfold sgnWord; cases neg; exact .inl rfl; exact .inr rfl
  have e1 : nearWord neg m e s = sgnWord neg + Fl.near m s e := by unfold nearWord; rw [if_neg hm0, word_sum]
  rw [e1]
  clear e1
  have q0 : ((m : Int) == 0) = false := by simp [hm0]
  have q1 : (0 : Int) < (m : Int) := by omega
  have SN : Hid (neg = true ∧ sgnWord neg = 9223372036854775808 ∨ neg = false ∧ sgnWord neg = 0) := by cases neg; exact .inr ⟨rfl, rfl⟩; exact .inl ⟨rfl, rfl⟩
  obtain ⟨S, hSe⟩ : ∃ S, sgnWord neg = S := ⟨_, rfl⟩
  rw [hSe] at hS SN ⊢
  clear hSe
  have hS2 : S ≤ 9223372036854775808 := by omega
  have LC := hid_of (fun w => length_calls m hm w)
  have hbl := blen_le m hm
  have hbp : 1 ≤ blen m := by unfold blen; rw [if_neg hm0]; omega
  obtain ⟨N, hN⟩ : ∃ N, Fl.near m s e = N := ⟨_, rfl⟩
  rw [hN]
  by_cases hlo : e < -1300
  · have hN0 : N = 0 := by rw [← hN, near_low m s e hm hm0 hlo]
    subst hN0
    clear hN LC
    rcases SN.out with ⟨rfl, rfl⟩ | ⟨rfl, rfl⟩ <;>
    · go_enter Tryd.func28, Tryd.ntmps28
      go_wp2
      go_ret
      exact ⟨rfl, rfl⟩
  by_cases hhi : 1100 < e
  · have hN0 : N = 9218868437227405312 := by rw [← hN, near_high m s e hhi]
    subst hN0
    clear hN LC
    rcases SN.out with ⟨rfl, rfl⟩ | ⟨rfl, rfl⟩ <;>
    · go_enter Tryd.func28, Tryd.ntmps28
      go_wp2
      go_ret
      exact ⟨rfl, rfl⟩
  have hmx := last_cut m e hm0
  have hlast : Fl.lastOf m e = (Fl.lastOf m e + 1074).toNat - 1074 := by unfold Fl.lastOf; omega
  obtain ⟨C, hC⟩ : ∃ C, Fl.lastOf m e - e = C := ⟨_, rfl⟩
  obtain ⟨L, hL⟩ : ∃ L : Nat, (Fl.lastOf m e + 1074).toNat = L := ⟨_, rfl⟩
  have hLe : Fl.lastOf m e = (L : Int) - 1074 := by omega
  rw [hC] at hmx
  have NU := hid_of (fun (t : Nat) (h : (t : Int) = e - Fl.lastOf m e) => NEnd.up m t s e hm0 h hlast)
  have ND := hid_of (fun (i : Nat) (h : ((i + 1 : Nat) : Int) = Fl.lastOf m e - e) => NEnd.down m i s e hm0 h hlast)
  rw [hL] at NU ND
  have hEL : e + C = (L : Int) - 1074 := by omega
  have HC := hid_of hC
  have HN := hid_of hN
  have hCb : -64 ≤ C ∧ C ≤ 300 := by omega
  obtain ⟨C1, C2⟩ := hCb
  have hL2 : L ≤ 2400 := by omega
  have HLE := hid_of hLe
  have HMX := hid_of hmx
  have HEL := hid_of hEL
  clear hlast hL hC hN hLe hmx hEL
  go_enter Tryd.func28, Tryd.ntmps28
  go_upto_region 2 with fail
  go_cut [18] (fun x wx => x = .bool neg ∧ wx = w)
  case first =>
    cases neg <;>
    · go_wp2
      go_meet
      case rel => exact ⟨by first | rfl | (simp; omega), rfl⟩
  case rest =>
  obtain ⟨rfl, hwq⟩ := hcut
  replace hwq := hwq.symm
  subst hwq
  go_upto_if 18 with fail
  go_cut [9] (fun x wx => x = .int .u64 (S : Int) ∧ wx = w)
  case first =>
    rcases SN.out with ⟨rfl, rfl⟩ | ⟨rfl, rfl⟩ <;>
    · go_wp2
      go_meet
      case rel => exact ⟨rfl, rfl⟩
  case rest =>
  obtain ⟨rfl, hwq⟩ := hcut
  replace hwq := hwq.symm
  subst hwq
  go_upto_if 36 with (go_at_call 36; refine (LC.out _).mono ?_; rintro v w' ⟨rfl, rfl⟩)
  go_cut [10] (fun x wx => x = .int .i64 C ∧ wx = w)
  case first =>
    by_cases c1 : (blen m : Int) - 53 < -1074 - e
    · have hCe : C = -1074 - e := by have := HMX.out; omega
      subst hCe
      go_wp2
      go_meet
      case rel => exact ⟨rfl, rfl⟩
    · have hCe : C = (blen m : Int) - 53 := by have := HMX.out; omega
      subst hCe
      go_wp2
      go_meet
      case rel => exact ⟨rfl, rfl⟩
  case rest =>
  obtain ⟨rfl, hwq⟩ := hcut
  replace hwq := hwq.symm
  subst hwq
  obtain ⟨M1, hM1⟩ : ∃ M1 : Nat, M1 = if C < 0 then m * 2 ^ (-C).toNat else m := ⟨_, rfl⟩
  obtain ⟨E1, hE1⟩ : ∃ E1 : Int, E1 = if C < 0 then e + C else e := ⟨_, rfl⟩
  obtain ⟨D, hD⟩ : ∃ D : Nat, D = C.toNat := ⟨_, rfl⟩
  have hED : E1 + (D : Int) = (L : Int) - 1074 := by
    have := HEL.out
    rw [hE1, hD]; split <;> omega
  have KU := hid_of (fun (t : Nat) (h : (t : Int) ≤ -C) => (kept_up m t hm0 (by have := HMX.out; omega)).1)
  have hM64 : M1 < 18446744073709551616 := by
    rw [hM1]
    split
    · exact Nat.lt_trans (KU.out _ (by omega)) (by decide)
    · exact hm
  have EN : NEnd m s e (M1 / 2 ^ D + (if hb M1 D = true ∧ (rs M1 s D = true ∨ M1 / 2 ^ D % 2 = 1) then 1 else 0)) L := by
    by_cases c : 0 < C
    · obtain ⟨i, hi⟩ : ∃ i : Nat, D = i + 1 := ⟨D - 1, by omega⟩
      rw [hM1, if_neg (by omega), hi]
      exact ND.out i (by have := HC.out; omega)
    · have d0 : D = 0 := by omega
      rw [d0]
      have hf : hb M1 0 = false := rfl
      rw [if_neg (by rw [hf]; simp), Nat.pow_zero, Nat.div_one, Nat.add_zero, hM1]
      have := NU.out (-C).toNat (by have := HC.out; omega)
      by_cases c2 : C < 0
      · rw [if_pos c2]; exact this
      · rw [if_neg c2]
        rw [show (-C).toNat = 0 by omega, Nat.pow_zero, Nat.mul_one] at this
        exact this
  have hD3 : D ≤ 300 := by omega
  have hE3 : -1400 ≤ E1 ∧ E1 ≤ 1100 := by rw [hE1]; split <;> omega
  obtain ⟨E2, E3⟩ := hE3
  have HM1 := hid_of hM1
  have HE1 := hid_of hE1
  have HD := hid_of hD
  have HED := hid_of hED
  have HEN := hid_of EN
  clear hM1 hE1 hD hED EN
  go_upto_block 0 with fail
  go_cut [1, 2, 10] (fun x y z wx => x = .int .u64 (M1 : Int) ∧ y = .int .i64 E1 ∧ z = .int .i64 (D : Int) ∧ wx = w)
  case first =>
    go_wp2_with fail
    go_loop [1, 2, 10] (fun x y z => ∃ t : Nat, ((t : Int) ≤ -C ∨ t = 0) ∧ x = .int .u64 ((m * 2 ^ t : Nat) : Int) ∧ y = .int .i64 (e - t) ∧ z = .int .i64 (C + t)) (fun _ _ z => (-(intOf z)).toNat)
    case atStart => exact ⟨0, .inr rfl, by simp, by simp, by simp⟩
    case round =>
      obtain ⟨t, ht, rfl, rfl, rfl⟩ := hrel
      have hsucc : m * 2 ^ (t + 1) = m * 2 ^ t * 2 := by rw [Nat.pow_succ, Nat.mul_assoc]
      have HSU := hid_of hsucc
      have HTT := hid_of ht
      have t64 : (t : Int) ≤ 64 := by omega
      clear hsucc ht
      by_cases hgo : C + (t : Int) < 0
      · have hk := KU.out t (by omega)
        obtain ⟨Z, hZ⟩ := nat_ex' (m * 2 ^ t)
        rw [hZ] at hk HSU ⊢
        clear hZ
        go_wp2
        go_round
        case rel => exact ⟨t + 1, .inl (by omega), by rw [HSU.out]; go_num, by go_num, by go_num⟩
        case measure => simp [intOf]; omega
      · have h0 : Hid (m * 2 ^ t = M1 ∧ e - (t : Int) = E1 ∧ C + (t : Int) = (D : Int)) := by
          have hh := HTT.out
          have e1 := HM1.out
          have e2 := HE1.out
          have e3 := HD.out
          by_cases c : C < 0
          · rw [if_pos c] at e1 e2
            refine And.intro ?_ ⟨by omega, by omega⟩
            rw [e1]; congr 2; omega
          · rw [if_neg c] at e1 e2
            have : t = 0 := by omega
            subst this
            exact And.intro (by rw [e1]; simp) ⟨by omega, by omega⟩
        obtain ⟨Z, hZ⟩ := nat_ex' (m * 2 ^ t)
        rw [hZ] at h0 ⊢
        clear hZ
        go_wp2
        go_meet
        case rel => exact ⟨by rw [h0.out.1], by rw [h0.out.2.1], by rw [h0.out.2.2], rfl⟩
  case rest =>
  obtain ⟨rfl, rfl, rfl, hwq⟩ := hcut
  replace hwq := hwq.symm
  subst hwq
  go_upto_block 2 with fail
  go_cut [1, 2, 3, 11, 12] (fun x y r h i wx => x = .int .u64 ((M1 / 2 ^ D : Nat) : Int) ∧ y = .int .i64 ((L : Int) - 1074) ∧ r = .bool (rs M1 s D) ∧ h = .bool (hb M1 D) ∧ wx = w)
  case first =>
    go_wp2_with fail
    go_loop [1, 2, 3, 11, 12] (fun x y r h i => ∃ k : Nat, k ≤ D ∧ i = .int .i64 (k : Int) ∧ x = .int .u64 ((M1 / 2 ^ k : Nat) : Int) ∧ y = .int .i64 (E1 + k) ∧ r = .bool (rs M1 s k) ∧ h = .bool (hb M1 k)) (fun _ _ _ _ i => D - (intOf i).toNat)
    case atStart => exact ⟨0, by omega, rfl, by simp, by simp, rfl, rfl⟩
    case round =>
      obtain ⟨k, hk, rfl, rfl, rfl, rfl, rfl⟩ := hrel
      have hle : M1 / 2 ^ k < 18446744073709551616 := Nat.lt_of_le_of_lt (Nat.div_le_self _ _) hM64
      have hn1 : M1 / 2 ^ (k + 1) = M1 / 2 ^ k / 2 := by rw [Nat.pow_succ, Nat.div_div_eq_div_mul]
      have hn2 : hb M1 (k + 1) = decide (M1 / 2 ^ k % 2 = 1) := rfl
      have hn3 := rs_step M1 s k
      have H1 := hid_of hn1
      have H2 := hid_of hn2
      have H3 := hid_of hn3
      clear hn1 hn2 hn3
      obtain ⟨Z, hZ⟩ := nat_ex' (M1 / 2 ^ k)
      rw [hZ] at hle H1 H2 ⊢
      have HZ := hid_of hZ
      clear hZ
      by_cases hgo : (k : Int) < (D : Int)
      · obtain ⟨f, hf⟩ : ∃ f, hb M1 k = f := ⟨_, rfl⟩
        rw [hf] at H3 ⊢
        clear hf
        obtain ⟨r, hr⟩ : ∃ r, rs M1 s k = r := ⟨_, rfl⟩
        rw [hr] at H3 ⊢
        clear hr
        have hz2 : ((Z : Int) % 2 == 1) = decide (Z % 2 = 1) := by
          by_cases c : Z % 2 = 1
          · rw [decide_eq_true c]; simp; omega
          · rw [decide_eq_false c]; simp; omega
        cases f <;>
        · go_wp2
          go_round
          case rel => exact ⟨k + 1, by omega, by go_num, by rw [H1.out]; go_num, by go_num, by rw [H3.out]; simp, by rw [H2.out]; try exact congrArg Value.bool hz2⟩
          case measure => simp [intOf]; omega
      · obtain rfl : k = D := by omega
        go_wp2
        go_meet
        case rel => exact ⟨by rw [HZ.out], by rw [HED.out], rfl, rfl, rfl⟩
  case rest =>
  obtain ⟨rfl, rfl, rfl, rfl, hwq⟩ := hcut
  replace hwq := hwq.symm
  subst hwq
  have EN := HEN.out
  obtain ⟨K0, hK0⟩ := nat_ex' (M1 / 2 ^ D)
  rw [hK0] at EN ⊢
  obtain ⟨F, hF⟩ : ∃ F, hb M1 D = F := ⟨_, rfl⟩
  rw [hF] at EN ⊢
  obtain ⟨R, hR⟩ : ∃ R, rs M1 s D = R := ⟨_, rfl⟩
  rw [hR] at EN ⊢
  have hK64 : K0 ≤ 9007199254740992 := by have := EN.top; split at this <;> omega
  obtain ⟨b, hbb⟩ : ∃ b : Bool, b = (F && (R || decide (K0 % 2 = 1))) := ⟨_, rfl⟩
  obtain ⟨K, hK⟩ : ∃ K : Nat, K = if b = true then K0 + 1 else K0 := ⟨_, rfl⟩
  have hKe : K0 + (if F = true ∧ (R = true ∨ K0 % 2 = 1) then 1 else 0) = K := by
    rw [hK, hbb]
    by_cases c : F = true ∧ (R = true ∨ K0 % 2 = 1)
    · rw [if_pos c, if_pos (by rw [c.1]; rcases c.2 with q | q <;> simp [q])]
    · rw [if_neg c]
      have : ¬ (F && (R || decide (K0 % 2 = 1))) = true := fun q => c (by simpa using q)
      rw [if_neg this, Nat.add_zero]
  rw [hKe] at EN
  have HBB := hid_of hbb
  have HKK := hid_of hK
  have HEN2 := hid_of EN
  have hz2 : ((K0 : Int) % 2 == 1) = decide (K0 % 2 = 1) := by
    by_cases c : K0 % 2 = 1
    · rw [decide_eq_true c]; simp; omega
    · rw [decide_eq_false c]; simp; omega
  clear hK0 hF hR hbb hK hKe EN HEN NU ND KU HM1 HE1 HED
  go_upto_region 24 with fail
  go_cut [68] (fun x wx => x = .bool b ∧ wx = w)
  case first =>
    cases F <;> cases R <;>
    · go_wp2
      go_meet
      case rel => exact ⟨by rw [HBB.out]; first | rfl | exact congrArg Value.bool hz2 | simp, rfl⟩
  case rest =>
  obtain ⟨rfl, hwq⟩ := hcut
  replace hwq := hwq.symm
  subst hwq
  clear hz2
  go_upto_if 68 with fail
  go_cut [1] (fun x wx => x = .int .u64 (K : Int) ∧ wx = w)
  case first =>
    have hkk := HKK.out
    cases b
    · rw [if_neg (by simp)] at hkk
      subst hkk
      go_wp2
      go_meet
      case rel => exact ⟨rfl, rfl⟩
    · rw [if_pos rfl] at hkk
      have HX := hid_of hkk
      clear hkk
      go_wp2
      go_meet
      case rel => exact ⟨by rw [HX.out]; go_num, rfl⟩
  case rest =>
  obtain ⟨rfl, hwq⟩ := hcut
  replace hwq := hwq.symm
  subst hwq
  have EN := HEN2.out
  clear HEN2 HKK HBB
  have HK := near_end K L EN.top EN.low
  have hv := EN.val
  rw [HN.out] at hv
  rw [← hv] at HK
  clear EN hv
  rcases HK with ⟨k1, ⟨k2, k3⟩ | ⟨k2, k3⟩⟩ | ⟨k1, k3⟩ | ⟨k1, k2, ⟨k4, k3⟩ | ⟨k4, k3⟩⟩
  · have g1 : ((K : Int) == 9007199254740992) = true := by rw [k1]; rfl
    have HF := hid_of k3
    subst k1
    clear k3
    go_wp2
    go_ret
    exact ⟨ret_int (by rw [HF.out]; omega), rfl⟩
  · have g1 : ((K : Int) == 9007199254740992) = true := by rw [k1]; rfl
    have HF := hid_of k3
    subst k1
    clear k3
    go_wp2
    go_ret
    exact ⟨ret_int (by rw [HF.out]; omega), rfl⟩
  · have g1 : ((K : Int) == 9007199254740992) = false := beq_eq_false_iff_ne.2 (by omega)
    have HF := hid_of k3
    have j1 : (K : Int) < 4503599627370496 := by omega
    have HJ := hid_of k1
    clear k3 k1
    go_wp2
    go_ret
    exact ⟨ret_int (by rw [HF.out]; omega), rfl⟩
  · obtain ⟨q, hq⟩ : ∃ q : Int, (K : Int) = q ∧ 4503599627370496 ≤ q ∧ q < 9007199254740992 := ⟨_, rfl, by omega, by omega⟩
    obtain ⟨hq1, hq2, hq3⟩ := hq
    have g1 : (q == 9007199254740992) = false := beq_eq_false_iff_ne.2 (by omega)
    have HF := hid_of k3
    have HJ := hid_of (And.intro hq1 (And.intro k1 k2))
    rw [hq1]
    clear k3 k1 k2 hq1 HMX HEL HC HN HLE HD
    go_wp2
    go_ret
    exact ⟨ret_int (by rw [HF.out]; have := HJ.out; omega), rfl⟩
  · obtain ⟨q, hq⟩ : ∃ q : Int, (K : Int) = q ∧ 4503599627370496 ≤ q ∧ q < 9007199254740992 := ⟨_, rfl, by omega, by omega⟩
    obtain ⟨hq1, hq2, hq3⟩ := hq
    have g1 : (q == 9007199254740992) = false := beq_eq_false_iff_ne.2 (by omega)
    have HF := hid_of k3
    have HJ := hid_of (And.intro hq1 (And.intro k1 k2))
    rw [hq1]
    clear k3 k1 k2 hq1 HMX HEL HC HN HLE HD
    go_wp2
    go_ret
    exact ⟨ret_int (by rw [HF.out]; have := HJ.out; omega), rfl⟩
end Go.Proofs.YtikmollocchfnabDoor
