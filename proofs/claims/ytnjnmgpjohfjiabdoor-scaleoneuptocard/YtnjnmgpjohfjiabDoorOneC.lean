/- math.Ldexp at whole numbers of 32 bits. -/
import Derived.Test.YtnjnmgpjohfjiabDoorOneB
namespace Go.Proofs.YtnjnmgpjohfjiabDoor
open Go.RowKit

/-- The word of a sign, a field and digits. -/
def fw (s : Bool) (F B : Nat) : Nat := (sw s + F) * 4503599627370496 + B

theorem fw_mod (s : Bool) (F B : Nat) (hF : F < 2048) (hB : B < 4503599627370496) : fw s F B % 9223372036854775808 = F * 4503599627370496 + B ∧ fw s F B / 9223372036854775808 % 2 = (if s then 1 else 0) ∧ fw s F B < 18446744073709551616 := by
  unfold fw sw
  cases s
  · rw [if_neg (by simp), if_neg (by simp)]; omega
  · rw [if_pos rfl, if_pos rfl]; omega

theorem fw_word (s : Bool) (F B : Nat) (hF : F < 2047) (hB : B < 4503599627370496) : fw s F B = Ieee.double.word s (F * 4503599627370496 + B) := by
  obtain ⟨a1, a2, a3⟩ := fw_mod s F B (by omega) hB
  obtain ⟨b1, b2, b3⟩ := Fl.word_parts s (F * 4503599627370496 + B) (by omega)
  cases s
  · rw [if_neg (by simp)] at a2 b1; omega
  · rw [if_pos rfl] at a2 b1; omega

set_option maxRecDepth 100000 in
set_option maxHeartbeats 2000000 in
theorem ldexp_calls (s : Bool) (F B : Nat) (up : Int) (f1 : 1023 ≤ F) (f2 : F ≤ 1054) (hB : B < 4503599627370496) (u1 : -900 ≤ up) (u2 : up ≤ 900) (w : World) :
    Calls Tryd.prog 30 #[.float .f64 (fw s F B), .int .i64 up] w fun e w' => e = .returned (.float .f64 (fw s ((F : Int) + up).toNat B)) ∧ w = w' := by
  obtain ⟨G, hG⟩ : ∃ G : Nat, (G : Int) = F + up := ⟨((F : Int) + up).toNat, by omega⟩
  have hG' : ((F : Int) + up).toNat = G := by omega
  rw [hG']
  obtain ⟨a1, a2, a3⟩ := fw_mod s F B (by omega) hB
  have hfin : fw s F B % 9223372036854775808 < 9218868437227405312 := by omega
  have hnn : ¬ Fl.nan (fw s F B) := by unfold Fl.nan; omega
  have z0 : (FloatKind.f64.format.order (fw s F B) 0 == some .eq) = false := by
    have h := Fl.eq_iff (fw s F B) 0 hnn (by unfold Fl.nan; omega)
    have e : ¬ Fl.sr (fw s F B) = Fl.sr 0 := by
      unfold Fl.sr
      rw [a1, if_neg (show ¬ (0 / 9223372036854775808 % 2 = 1) by omega)]
      split <;> omega
    rw [decide_eq_false e] at h
    exact h
  have CI : Hid (∀ w : World, Calls Tryd.prog 32 #[.float .f64 (fw s F B), .int .i64 0] w fun e w' => e = .returned (.bool false) ∧ w = w') := fun w => by
    have := isInf_calls (fw s F B) a3 hnn w
    rw [decide_eq_false (show ¬ fcls (fw s F B) = 1 by unfold fcls; rw [if_neg hnn, if_neg (by omega)]; decide)] at this
    exact this
  have CN : Hid (∀ w : World, Calls Tryd.prog 31 #[.float .f64 (fw s F B)] w fun e w' => e = .returned (.bool false) ∧ w = w') := fun w => by
    have := isNaN_calls (fw s F B) w
    rw [decide_eq_false hnn] at this
    exact this
  have CM := hid_of (fun w => normalize_calls (fw s F B) a3 (by omega) hfin w)
  have hb := bits_run (fw s F B)
  have m1 : bits .and .i64 ((fw s F B : Int) / 4503599627370496) 2047 = (F : Int) := by
    have h := field_i64 (fw s F B / 4503599627370496) (by omega)
    rw [show fw s F B / 4503599627370496 % 2048 = F by omega] at h
    exact h
  have m2 : bits .andNot .u64 (fw s F B : Int) 9218868437227405312 = ((sw s * 4503599627370496 + B : Nat) : Int) := cut_field F B s (by omega) hB
  have m3 : bits .or .u64 ((sw s * 4503599627370496 + B : Nat) : Int) ((G : Int) * 4503599627370496) = (fw s G B : Int) := put_field G B s (by omega) hB
  have hf := frombits_run (fw s G B)
  have hm : ∀ (t : TypeId) (w : World), (binOp .mul t (.float .f64 4607182418800017408) (.float .f64 (fw s G B))).run Tryd.prog w = .ok (.float .f64 (fw s G B)) w := fun t w => run_float_arith w .mul t .f64 _ _ _ (by
    show Ieee.double.mul 4607182418800017408 (fw s G B) = some (fw s G B)
    rw [fw_word s G B (by omega) hB]
    exact mul_one s _ (by omega) (by omega))
  have hx1 : (0 : Int) ≤ (fw s F B : Int) := by omega
  have hx2 : (fw s F B : Int) < 18446744073709551616 := by omega
  have g1 : 1023 ≤ (F : Int) := by omega
  have g2 : (F : Int) ≤ 1054 := by omega
  clear a1 a2 a3 hfin hnn hG' hB f1 f2
  generalize fw s F B = X at *
  generalize fw s G B = X' at *
  generalize sw s * 4503599627370496 + B = Y at *
  rw [hG] at m3
  clear hG
  generalize (F : Int) = f at *
  have y1 : (0 : Int) ≤ (Y : Int) := by omega
  generalize (Y : Int) = y at *
  generalize (X : Int) = xi at *
  generalize (X' : Int) = xj at *
  obtain ⟨t, ht⟩ : ∃ t, xi / 4503599627370496 = t := ⟨_, rfl⟩
  have t1 : 0 ≤ t := by omega
  have t2 : t < 4096 := by omega
  rw [ht] at m1
  rw [show f + up = up + (f - 1023) + 1023 by omega] at m3
  go_enter Tryd.func30, Tryd.ntmps30
  go_wp2_with fail
  refine (CI.out _).mono ?_
  rintro e w' ⟨rfl, rfl⟩
  go_wp2_with fail
  refine (CN.out _).mono ?_
  rintro e w' ⟨rfl, rfl⟩
  go_wp2_with fail
  refine (CM.out _).mono ?_
  rintro e w' ⟨rfl, rfl⟩
  clear CI CN CM z0
  go_wp2
  go_ret
  exact ⟨rfl, rfl⟩

theorem ldexp_zero (up : Int) (w : World) : Calls Tryd.prog 30 #[.float .f64 0, .int .i64 up] w fun e w' => e = .returned (.float .f64 0) ∧ w = w' := by
  have z0 : (FloatKind.f64.format.order 0 0 == some .eq) = true := by decide +kernel
  go_enter Tryd.func30, Tryd.ntmps30
  go_wp2
  go_ret
  exact ⟨rfl, rfl⟩

theorem oword_fw (z : Int) (hz : z ≠ 0) (z1 : -2147483648 ≤ z) (z2 : z ≤ 2147483647) :
    ∃ F B : Nat, 1023 ≤ F ∧ F ≤ 1054 ∧ B < 4503599627370496 ∧ ∀ up : Int, -900 ≤ up → up ≤ 900 → oword z up = fw (decide (z < 0)) ((F : Int) + up).toNat B := by
  obtain ⟨L, B, hL, hB, _, hr⟩ := orung_parts z hz z1 z2
  refine ⟨L + 1023, B, by omega, by omega, hB, fun up u1 u2 => ?_⟩
  obtain ⟨F, hF⟩ : ∃ F : Nat, (F : Int) = ((L + 1023 : Nat) : Int) + up := ⟨(((L + 1023 : Nat) : Int) + up).toNat, by omega⟩
  have hr' := hr up u1 u2
  have e1 : (((L + 1023 : Nat) : Int) + up).toNat = F := by omega
  rw [e1, fw_word _ F B (by omega) hB]
  unfold oword
  rw [if_neg hz]
  refine congrArg _ ?_
  have e2 : (L : Int) + 1023 + up = (F : Int) := by omega
  rw [e2] at hr'
  omega

/-- math.Ldexp moves a whole number of 32 bits by 2^up. -/
theorem Ldexp_calls (z up : Int) (z1 : -2147483648 ≤ z) (z2 : z ≤ 2147483647) (u1 : -900 ≤ up) (u2 : up ≤ 900) (w : World) :
    Calls Tryd.prog 16 #[.float .f64 (oword z 0), .int .i64 up] w fun e w' => e = .returned (.float .f64 (oword z up)) ∧ w = w' := by
  have C : Hid (∀ w : World, Calls Tryd.prog 30 #[.float .f64 (oword z 0), .int .i64 up] w fun e w' => e = .returned (.float .f64 (oword z up)) ∧ w = w') := fun w => by
    by_cases hz : z = 0
    · have e1 : ∀ u, oword z u = 0 := fun u => by unfold oword; rw [if_pos hz]
      rw [e1, e1]
      exact ldexp_zero up w
    · obtain ⟨F, B, f1, f2, hB, hw⟩ := oword_fw z hz z1 z2
      rw [hw 0 (by omega) (by omega), hw up u1 u2, show ((F : Int) + 0).toNat = F by omega]
      exact ldexp_calls _ F B up f1 f2 hB u1 u2 w
  generalize oword z 0 = X at C
  generalize oword z up = X' at C
  clear z1 z2 u1 u2
  go_enter Tryd.func16, Tryd.ntmps16
  go_wp2_with fail
  refine (C.out _).mono ?_
  rintro e w' ⟨rfl, rfl⟩
  go_wp2
  go_ret
  exact ⟨rfl, rfl⟩
end Go.Proofs.YtnjnmgpjohfjiabDoor
