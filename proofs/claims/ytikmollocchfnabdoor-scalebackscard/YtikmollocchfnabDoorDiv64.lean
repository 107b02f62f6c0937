/- The division of a number of two words by one, walked. -/
import Derived.Test.YtikmollocchfnabDoorDiv64A
import Derived.Test.YtikmollocchfnabDoorNear
import Derived.Deep.CutBlock
import Derived.Deep.DeepCutAuto
namespace Go.Proofs.YtikmollocchfnabDoor
open Go.RowKit

/-- The state of a digit's loop. -/
structure DLoop (a u q r Q : Nat) : Prop where
  sum : q * a + r = u
  low : Q ≤ q
  top : q ≤ 4294967297
  rem : r < 4294967296

theorem DLoop.step {a u t r Q : Nat} (h : DLoop a u (t + 1) r Q) (hq : Q < t + 1) (hr : r + a < 4294967296) : DLoop a u t (r + a) Q :=
  ⟨by have := h.sum; rw [Nat.add_mul] at this; omega, by omega, by have := h.top; omega, hr⟩

/-- Left with a remainder of more than a digit the guess is right. -/
theorem DLoop.leave {a b u v t r Q : Nat} (h : DLoop a u (t + 1) r Q) (hq : Q < t + 1) (hr : 4294967296 ≤ r + a) (hb : b < 4294967296) (ha : 0 < a) (hQ : Q = (u * 4294967296 + v) / (a * 4294967296 + b)) : t = Q := by
  refine Dv.right a b u v t (r + a) Q hQ ha (by have := h.sum; rw [Nat.add_mul] at this; omega) (by omega) ?_
  have ht : t ≤ 4294967296 := by have := h.top; omega
  have : t * b ≤ 4294967296 * 4294967295 := Nat.mul_le_mul ht (by omega)
  omega

/-- What is left of a digit's division, reckoned modulo the word. -/
theorem left_over (u v y Q R : Nat) (hQ : (u * 4294967296 + v) / y = Q) (hR : (u * 4294967296 + v) % y = R) (hy : y < 18446744073709551616) (hy0 : 0 < y) :
    IntKind.u64.wrap (IntKind.u64.wrap (IntKind.u64.wrap ((u : Int) * 4294967296) + (v : Int)) - IntKind.u64.wrap ((Q : Int) * (y : Int))) = (R : Int) := by
  have hd := Nat.div_add_mod (u * 4294967296 + v) y
  have hm := Nat.mod_lt (u * 4294967296 + v) hy0
  rw [hQ, hR, Nat.mul_comm] at hd
  rw [hR] at hm
  rw [← Int.natCast_mul]
  generalize Q * y = z at hd
  simp only [IntKind.wrap_u64]
  omega

set_option maxRecDepth 100000 in
set_option maxHeartbeats 4000000 in
theorem div64_calls (hi lo a b v c : Nat) (ha : 2147483648 ≤ a) (ha2 : a < 4294967296) (hb : b < 4294967296) (hv : v < 4294967296) (hc : c < 4294967296) (hlo : lo = v * 4294967296 + c) (hh : 0 < hi) (hu : hi < a * 4294967296 + b) (w : World) :
    Calls Tryd.prog 25 #[.int .u64 (hi : Int), .int .u64 (lo : Int), .int .u64 ((a * 4294967296 + b : Nat) : Int)] w fun e w' => e = .returned (.tuple #[.int .u64 ((hi * 18446744073709551616 + lo) / (a * 4294967296 + b) : Nat), .int .u64 ((hi * 18446744073709551616 + lo) % (a * 4294967296 + b) : Nat)]) ∧ w = w' := by
  obtain ⟨y, hy⟩ : ∃ y, a * 4294967296 + b = y := ⟨_, rfl⟩
  have C := hid_of (fun w => lz64_nat y 0 (by omega) (by
    unfold blen
    rw [if_neg (by omega), Fl.log2_unique y 63 (by omega) (by omega)]) w)
  rw [hy]
  have q1 : ((y : Int) == 0) = false := by simp; omega
  have q2 : ¬ (y : Int) ≤ (hi : Int) := by omega
  have q3 : ((hi : Int) == 0) = false := by simp; omega
  have y2 : (y : Int) / 4294967296 = (a : Int) := by omega
  have y3 : bits .and .u64 (y : Int) 4294967295 = (b : Int) := by
    have h := u64_and_nat y 4294967295 (by omega) (by omega)
    rw [show (4294967295 : Nat) = 2 ^ 32 - 1 by decide, Nat.and_two_pow_sub_one_eq_mod] at h
    rw [show ((2 ^ 32 - 1 : Nat) : Int) = 4294967295 by decide] at h
    rw [h]; omega
  have l2 : (lo : Int) / 4294967296 = (v : Int) := by omega
  have l3 : bits .and .u64 (lo : Int) 4294967295 = (c : Int) := by
    have h := u64_and_nat lo 4294967295 (by omega) (by omega)
    rw [show (4294967295 : Nat) = 2 ^ 32 - 1 by decide, Nat.and_two_pow_sub_one_eq_mod] at h
    rw [show ((2 ^ 32 - 1 : Nat) : Int) = 4294967295 by decide] at h
    rw [h]; omega
  have l4 : (lo : Int) / 18446744073709551616 = 0 := by omega
  have lo64 : (lo : Int) < 18446744073709551616 := by omega
  have o1 : bits .or .u64 (hi : Int) 0 = (hi : Int) := by
    have h := u64_or_nat hi 0 (by omega) (by omega)
    rw [Nat.or_zero] at h
    exact h
  have HLO := hid_of hlo
  clear hlo
  obtain ⟨Q, hQ⟩ : ∃ Q, (hi * 4294967296 + v) / y = Q := ⟨_, rfl⟩
  obtain ⟨R, hR⟩ : ∃ R, (hi * 4294967296 + v) % y = R := ⟨_, rfl⟩
  obtain ⟨Q', hQ'⟩ : ∃ Q, (R * 4294967296 + c) / y = Q := ⟨_, rfl⟩
  obtain ⟨R', hR'⟩ : ∃ R', (R * 4294967296 + c) % y = R' := ⟨_, rfl⟩
  have hy0 : 0 < y := by omega
  have hRy : R < y := by rw [← hR]; exact Nat.mod_lt _ hy0
  have hRy' : R' < y := by rw [← hR']; exact Nat.mod_lt _ hy0
  obtain ⟨z1, z2⟩ := Dv.two hi lo a b v c Q R Q' HLO.out (by omega) (by rw [hy]; exact hQ.symm) (by rw [hy]; exact hR.symm) (by rw [hy]; exact hQ'.symm)
  rw [hy] at z1 z2
  rw [← z1, ← z2, hR']
  clear z1 z2
  obtain ⟨f1, f2, f3⟩ := Dv.first a b hi v Q (by rw [hy]; exact hQ.symm) ha hb hv hu
  obtain ⟨g1, g2, g3⟩ := Dv.first a b R c Q' (by rw [hy]; exact hQ'.symm) ha hb hc (by omega)
  have md := Nat.div_add_mod hi a
  have ml := Nat.mod_lt hi (show 0 < a by omega)
  obtain ⟨q, hq⟩ : ∃ q, hi / a = q := ⟨_, rfl⟩
  obtain ⟨r, hr⟩ : ∃ r, hi % a = r := ⟨_, rfl⟩
  rw [hq, hr, Nat.mul_comm] at md
  rw [hr] at ml
  have d1 : (hi : Int) / (a : Int) = (q : Int) := by rw [← hq]; simp
  obtain ⟨p, hp⟩ : ∃ p, q * a = p := ⟨_, rfl⟩
  have p1 : IntKind.u64.wrap ((q : Int) * (a : Int)) = (p : Int) := by rw [← Int.natCast_mul, hp]; exact uwrap _ (by omega)
  have p2 : (hi : Int) - (p : Int) = (r : Int) := by omega
  have L0 : DLoop a hi q r Q := ⟨md, by omega, by omega, by omega⟩
  have HQ := hid_of hQ
  have HR := hid_of hR
  have HQ' := hid_of hQ'
  have HR' := hid_of hR'
  have HY := hid_of hy
  have MD := hid_of md
  clear hq hr hQ hR hQ' hR' hy md hp
  go_enter Tryd.func25, Tryd.ntmps25
  go_upto_block 0 with (go_at_call 24; refine (C.out _).mono ?_; rintro e w' ⟨rfl, rfl⟩)
  go_cut [15, 16] (fun x z wx => x = .int .u64 (Q : Int) ∧ (∃ r : Nat, z = .int .u64 (r : Int) ∧ r < 8589934592) ∧ wx = w)
  case first =>
    go_wp2_with fail
    go_loop [15, 16] (fun x z => ∃ q r : Nat, x = .int .u64 (q : Int) ∧ z = .int .u64 (r : Int) ∧ DLoop a hi q r Q) (fun x _ => (intOf x).toNat)
    case atStart => exact ⟨q, r, rfl, rfl, L0⟩
    case round =>
      clear L0 p1 p2 d1 f3 MD ml
      obtain ⟨q, r, rfl, rfl, L⟩ := hrel
      have HQe : Hid (Q = (hi * 4294967296 + v) / (a * 4294967296 + b)) := by rw [HY.out]; exact HQ.out.symm
      have lr := L.rem
      have lt := L.top
      have HL := hid_of L
      clear L
      by_cases c1 : q < 4294967296
      · obtain ⟨z, hz⟩ : ∃ z, q * b = z := ⟨_, rfl⟩
        have hz64 : z < 18446744073709551616 := by
          have : q * b ≤ 4294967295 * 4294967295 := Nat.mul_le_mul (by omega) (by omega)
          omega
        have zw : IntKind.u64.wrap ((q : Int) * (b : Int)) = (z : Int) := by rw [← Int.natCast_mul, hz]; exact uwrap _ hz64
        have k1 : ¬ (4294967296 : Int) ≤ (q : Int) := by omega
        have HZ := hid_of hz
        clear hz
        by_cases c3 : 4294967296 * (r : Int) + (v : Int) < (z : Int)
        · have hlt : Q < q := Dv.great a b hi v q r Q HQe.out (by omega) HL.out.sum (by rw [HZ.out]; omega)
          obtain ⟨t, ht⟩ : ∃ t, q = t + 1 := ⟨q - 1, by omega⟩
          have ht' : (q : Int) - 1 = (t : Int) := by omega
          have HT := hid_of ht
          clear ht
          by_cases c2 : (4294967296 : Int) ≤ (r : Int) + (a : Int)
          · go_wp2
            go_meet
            case rel => exact ⟨by rw [DLoop.leave (t := t) (by rw [← HT.out]; exact HL.out) (by have := HT.out; omega) (by omega) hb (by omega) HQe.out], ⟨r + a, by go_num, by omega⟩, rfl⟩
          · go_wp2
            go_round
            case rel => exact ⟨t, r + a, rfl, by go_num, DLoop.step (by rw [← HT.out]; exact HL.out) (by have := HT.out; omega) (by omega)⟩
            case measure => have := HT.out; simp [intOf]; omega
        · have hq : q = Q := Dv.right a b hi v q r Q HQe.out (by omega) HL.out.sum HL.out.low (by rw [HZ.out]; omega)
          have HE := hid_of hq
          clear hq
          go_wp2
          go_meet
          case rel => exact ⟨by rw [HE.out], ⟨r, rfl, by omega⟩, rfl⟩
      · have k1 : (4294967296 : Int) ≤ (q : Int) := by omega
        obtain ⟨t, ht⟩ : ∃ t, q = t + 1 := ⟨q - 1, by omega⟩
        have ht' : (q : Int) - 1 = (t : Int) := by omega
        have HT := hid_of ht
        clear ht
        by_cases c2 : (4294967296 : Int) ≤ (r : Int) + (a : Int)
        · go_wp2
          go_meet
          case rel => exact ⟨by rw [DLoop.leave (t := t) (by rw [← HT.out]; exact HL.out) (by have := HT.out; omega) (by omega) hb (by omega) HQe.out], ⟨r + a, by go_num, by omega⟩, rfl⟩
        · go_wp2
          go_round
          case rel => exact ⟨t, r + a, rfl, by go_num, DLoop.step (by rw [← HT.out]; exact HL.out) (by have := HT.out; omega) (by omega)⟩
          case measure => have := HT.out; simp [intOf]; omega
  case rest =>
    obtain ⟨rfl, ⟨r, rfl, hr8⟩, hwc⟩ := hcut
    obtain ⟨wa, ewa⟩ : ∃ wa, wa = wc := ⟨_, rfl⟩
    rw [← ewa] at hwc ⊢
    subst hwc
    clear ewa
    clear L0 p1 p2 d1 f3 MD ml
    have E1 := left_over hi v y Q R HQ.out HR.out (by omega) (by omega)
    have E2 := left_over R c y Q' R' HQ'.out HR'.out (by omega) (by omega)
    have md := Nat.div_add_mod R a
    have ml := Nat.mod_lt R (show 0 < a by omega)
    obtain ⟨q, hq⟩ : ∃ q, R / a = q := ⟨_, rfl⟩
    obtain ⟨r, hr⟩ : ∃ r, R % a = r := ⟨_, rfl⟩
    rw [hq, hr, Nat.mul_comm] at md
    rw [hr] at ml
    have d1 : (R : Int) / (a : Int) = (q : Int) := by rw [← hq]; simp
    obtain ⟨p, hp⟩ : ∃ p, q * a = p := ⟨_, rfl⟩
    have p1 : IntKind.u64.wrap ((q : Int) * (a : Int)) = (p : Int) := by rw [← Int.natCast_mul, hp]; exact uwrap _ (by omega)
    have p2 : (R : Int) - (p : Int) = (r : Int) := by omega
    have L0 : DLoop a R q r Q' := ⟨md, by omega, by omega, by omega⟩
    have MD := hid_of md
    clear hq hr md hp
    go_upto_block 2 with fail
    go_cut [18, 16] (fun x z wx => x = .int .u64 (Q' : Int) ∧ (∃ r : Nat, z = .int .u64 (r : Int) ∧ r < 8589934592) ∧ wx = wa)
    case first =>
      go_wp2_with fail
      go_loop [18, 16] (fun x z => ∃ q r : Nat, x = .int .u64 (q : Int) ∧ z = .int .u64 (r : Int) ∧ DLoop a R q r Q') (fun x _ => (intOf x).toNat)
      case atStart => exact ⟨q, r, rfl, rfl, L0⟩
      case round =>
        clear L0 p1 p2 d1 g3 MD ml
        obtain ⟨q, r, rfl, rfl, L⟩ := hrel
        have HQe : Hid (Q' = (R * 4294967296 + c) / (a * 4294967296 + b)) := by rw [HY.out]; exact HQ'.out.symm
        have lr := L.rem
        have lt := L.top
        have HL := hid_of L
        clear L
        by_cases c1 : q < 4294967296
        · obtain ⟨z, hz⟩ : ∃ z, q * b = z := ⟨_, rfl⟩
          have hz64 : z < 18446744073709551616 := by
            have : q * b ≤ 4294967295 * 4294967295 := Nat.mul_le_mul (by omega) (by omega)
            omega
          have zw : IntKind.u64.wrap ((q : Int) * (b : Int)) = (z : Int) := by rw [← Int.natCast_mul, hz]; exact uwrap _ hz64
          have k1 : ¬ (4294967296 : Int) ≤ (q : Int) := by omega
          have HZ := hid_of hz
          clear hz
          by_cases c3 : 4294967296 * (r : Int) + (c : Int) < (z : Int)
          · have hlt : Q' < q := Dv.great a b R c q r Q' HQe.out (by omega) HL.out.sum (by rw [HZ.out]; omega)
            obtain ⟨t, ht⟩ : ∃ t, q = t + 1 := ⟨q - 1, by omega⟩
            have ht' : (q : Int) - 1 = (t : Int) := by omega
            have HT := hid_of ht
            clear ht
            by_cases c2 : (4294967296 : Int) ≤ (r : Int) + (a : Int)
            · go_wp2
              go_meet
              case rel => exact ⟨by rw [DLoop.leave (t := t) (by rw [← HT.out]; exact HL.out) (by have := HT.out; omega) (by omega) hb (by omega) HQe.out], ⟨r + a, by go_num, by omega⟩, rfl⟩
            · go_wp2
              go_round
              case rel => exact ⟨t, r + a, rfl, by go_num, DLoop.step (by rw [← HT.out]; exact HL.out) (by have := HT.out; omega) (by omega)⟩
              case measure => have := HT.out; simp [intOf]; omega
          · have hq : q = Q' := Dv.right a b R c q r Q' HQe.out (by omega) HL.out.sum HL.out.low (by rw [HZ.out]; omega)
            have HE := hid_of hq
            clear hq
            go_wp2
            go_meet
            case rel => exact ⟨by rw [HE.out], ⟨r, rfl, by omega⟩, rfl⟩
        · have k1 : (4294967296 : Int) ≤ (q : Int) := by omega
          obtain ⟨t, ht⟩ : ∃ t, q = t + 1 := ⟨q - 1, by omega⟩
          have ht' : (q : Int) - 1 = (t : Int) := by omega
          have HT := hid_of ht
          clear ht
          by_cases c2 : (4294967296 : Int) ≤ (r : Int) + (a : Int)
          · go_wp2
            go_meet
            case rel => exact ⟨by rw [DLoop.leave (t := t) (by rw [← HT.out]; exact HL.out) (by have := HT.out; omega) (by omega) hb (by omega) HQe.out], ⟨r + a, by go_num, by omega⟩, rfl⟩
          · go_wp2
            go_round
            case rel => exact ⟨t, r + a, rfl, by go_num, DLoop.step (by rw [← HT.out]; exact HL.out) (by have := HT.out; omega) (by omega)⟩
            case measure => have := HT.out; simp [intOf]; omega
    case rest =>
      obtain ⟨rfl, ⟨r, rfl, hr8⟩, rfl⟩ := hcut
      clear L0 p1 p2 d1 g3 MD ml
      go_wp2
      go_ret2
      exact ⟨by simp, rfl⟩
end Go.Proofs.YtikmollocchfnabDoor
