/- Admit, in the document. -/
import Derived.Test.YtikmollocchfnabDoorAdmitP
import Derived.Deep.CutBlock
import Derived.Deep.DeepCutAuto
namespace Go.Proofs.YtikmollocchfnabDoor
open Go.RowKit

theorem odd_unique (a b : Nat) : ∀ z y : Nat, a % 2 = 1 → b % 2 = 1 → a * 2 ^ z = b * 2 ^ y → a = b ∧ z = y := by
  intro z
  induction z with
  | zero =>
    intro y ha hb h
    cases y with
    | zero => exact ⟨by simpa using h, rfl⟩
    | succ y => rw [Nat.pow_zero, Nat.mul_one, Nat.pow_succ, ← Nat.mul_assoc] at h; omega
  | succ z ih =>
    intro y ha hb h
    cases y with
    | zero => rw [Nat.pow_zero, Nat.mul_one, Nat.pow_succ, ← Nat.mul_assoc] at h; omega
    | succ y =>
      rw [Nat.pow_succ, Nat.pow_succ, ← Nat.mul_assoc, ← Nat.mul_assoc] at h
      obtain ⟨h1, h2⟩ := ih y ha hb (by omega)
      exact ⟨h1, by omega⟩

theorem part_unique (x a z : Nat) (ha : a % 2 = 1) (h : digs x = a * 2 ^ z) : podd x = a ∧ pexp x = -1074 + (fld x : Int) + (z : Int) := by
  have h0 : digs x ≠ 0 := by
    rw [h]
    have := Nat.mul_pos (show 0 < a by omega) (Nat.two_pow_pos z)
    omega
  rcases part_facts x with ⟨h1, _⟩ | ⟨_, h1, _, y, _, h2, h3⟩
  · exact absurd h1 h0
  · obtain ⟨e1, e2⟩ := odd_unique (podd x) a y z h1 ha (by rw [← h2, h])
    exact ⟨e1, by rw [h3, e2]⟩

theorem sign_top (x : Nat) (hx : x < 18446744073709551616) : ((x : Int) / 9223372036854775808 == 1) = fneg x := by
  unfold fneg
  by_cases c : 9223372036854775808 ≤ x
  · rw [decide_eq_true c]; exact beq_iff_eq.2 (by omega)
  · rw [decide_eq_false c]; exact beq_eq_false_iff_ne.2 (by omega)

set_option maxRecDepth 100000 in
set_option maxHeartbeats 2000000 in
theorem partsR_calls (x : Nat) (hx : x < 18446744073709551616) (w : World) : Calls Tryd.prog 22 #[.int .u64 (x : Int)] w fun v w' => v = .returned (.tuple #[.int .u64 ((podd x : Nat) : Int), .int .i64 (pexp x), .bool (fneg x)]) ∧ w = w' := by
  have hs := sign_top x hx
  obtain ⟨f, hf⟩ : ∃ f, x / 4503599627370496 % 2048 = f := ⟨_, rfl⟩
  obtain ⟨l, hl⟩ : ∃ l, x % 4503599627370496 = l := ⟨_, rfl⟩
  have m1 : (x : Int) % 4503599627370496 = (l : Int) := by omega
  have m2 : (x : Int) / 4503599627370496 % 2048 = (f : Int) := by omega
  have l1 : l < 4503599627370496 := by omega
  have f1 : f < 2048 := by omega
  have ed : digs x = if 0 < f then 4503599627370496 + l else l := by unfold digs; rw [hf, hl]
  have ef : fld x = f - 1 := by unfold fld; rw [hf]
  obtain ⟨d, hd⟩ : ∃ d, digs x = d := ⟨_, rfl⟩
  have dl : d < 9007199254740992 := by rw [← hd]; exact digs_lt x
  have PU := hid_of (fun (a z : Nat) (ha : a % 2 = 1) (h : d = a * 2 ^ z) => part_unique x a z ha (by rw [hd]; exact h))
  rw [ef] at PU
  have P0 : Hid (d = 0 → podd x = 0 ∧ pexp x = 0) := fun h => by
    rcases part_facts x with ⟨_, h1, h2⟩ | ⟨h1, _⟩
    · exact ⟨h1, h2⟩
    · rw [hd, h] at h1; exact absurd rfl h1
  rw [hd] at ed
  generalize podd x = o at PU P0
  generalize pexp x = p at PU P0
  generalize fneg x = sg at hs
  have DD := hid_of ed
  clear hf hl hd ef ed
  by_cases hf0 : f = 0
  · subst hf0
    obtain rfl : d = l := by have := DD.out; rw [if_neg (by omega)] at this; exact this
    clear DD
    by_cases h0 : d = 0
    · obtain ⟨rfl, rfl⟩ := P0.out h0
      subst h0
      clear PU P0
      go_enter Tryd.func22, Tryd.ntmps22
      go_wp2
      go_ret3
      exact ⟨rfl, rfl⟩
    · have q0 : ((d : Int) == 0) = false := beq_eq_false_iff_ne.2 (by omega)
      have HN := hid_of h0
      clear P0 h0
      go_enter Tryd.func22, Tryd.ntmps22
      go_wp2_with fail
      go_loop [5, 6] (fun y z => ∃ a k : Nat, d = a * 2 ^ k ∧ k ≤ 60 ∧ y = .int .u64 (a : Int) ∧ z = .int .i64 (-1074 + (k : Int))) (fun y _ => (intOf y).toNat)
      case atStart => exact ⟨d, 0, by simp, by omega, by first | rfl | go_num, by first | go_num | (simp; done)⟩
      case round =>
        obtain ⟨a, k, ha, hk, rfl, rfl⟩ := hrel
        have hale : a ≤ d := by rw [ha]; exact Nat.le_mul_of_pos_right _ (Nat.two_pow_pos k)
        have ha0 : a ≠ 0 := fun t => HN.out (by rw [ha, t, Nat.zero_mul])
        have HA := hid_of ha
        by_cases hev : a % 2 = 0
        · have g : ((a : Int) % 2 == 0) = true := beq_iff_eq.2 (by omega)
          have hk60 : k < 60 := by
            by_cases c : k < 60
            · exact c
            · have h1 : 2 ^ 60 ≤ 2 ^ k := Nat.pow_le_pow_right (by omega) (by omega)
              have h2 : 1 * 2 ^ k ≤ a * 2 ^ k := Nat.mul_le_mul_right _ (by omega)
              omega
          have HS : Hid (d = a / 2 * 2 ^ (k + 1)) := by
            rw [HA.out, Nat.pow_succ, Nat.mul_comm (2 ^ k) 2, ← Nat.mul_assoc]
            show a * 2 ^ k = a / 2 * 2 * 2 ^ k
            rw [show a / 2 * 2 = a by omega]
          clear ha
          go_wp2
          go_round
          case rel => exact ⟨a / 2, k + 1, HS.out, by omega, by go_num, by go_num⟩
          case measure => simp [intOf]; omega
        · have g : ((a : Int) % 2 == 0) = false := beq_eq_false_iff_ne.2 (by omega)
          obtain ⟨rfl, hp⟩ := PU.out a k (by omega) ha
          have HP := hid_of hp
          clear ha hp
          go_wp2
          go_ret3
          exact ⟨by rw [HP.out]; first | rfl | (simp; done) | (simp; omega), rfl⟩
  · have q1 : ((f : Int) == 0) = false := beq_eq_false_iff_ne.2 (by omega)
    obtain rfl : d = 4503599627370496 + l := by have := DD.out; rw [if_pos (by omega)] at this; exact this
    have e1 : (l : Int) + 4503599627370496 = ((4503599627370496 + l : Nat) : Int) := by omega
    obtain ⟨d, hd⟩ : ∃ d, 4503599627370496 + l = d := ⟨_, rfl⟩
    rw [hd] at PU P0 DD dl e1
    have q0 : ((d : Int) == 0) = false := beq_eq_false_iff_ne.2 (by omega)
    have HN : Hid (¬ d = 0) := by show ¬ d = 0; omega
    have hfi : ((f - 1 : Nat) : Int) = (f : Int) - 1 := by omega
    rw [hfi] at PU
    clear P0 DD hd hf0 hfi
    go_enter Tryd.func22, Tryd.ntmps22
    go_wp2_with fail
    go_loop [5, 6] (fun y z => ∃ a k : Nat, d = a * 2 ^ k ∧ k ≤ 60 ∧ y = .int .u64 (a : Int) ∧ z = .int .i64 ((f : Int) - 1075 + (k : Int))) (fun y _ => (intOf y).toNat)
    case atStart => exact ⟨d, 0, by simp, by omega, by first | rfl | go_num, by first | go_num | (simp; done)⟩
    case round =>
      obtain ⟨a, k, ha, hk, rfl, rfl⟩ := hrel
      have hale : a ≤ d := by rw [ha]; exact Nat.le_mul_of_pos_right _ (Nat.two_pow_pos k)
      have ha0 : a ≠ 0 := fun t => HN.out (by rw [ha, t, Nat.zero_mul])
      have HA := hid_of ha
      by_cases hev : a % 2 = 0
      · have g : ((a : Int) % 2 == 0) = true := beq_iff_eq.2 (by omega)
        have hk60 : k < 60 := by
          by_cases c : k < 60
          · exact c
          · have h1 : 2 ^ 60 ≤ 2 ^ k := Nat.pow_le_pow_right (by omega) (by omega)
            have h2 : 1 * 2 ^ k ≤ a * 2 ^ k := Nat.mul_le_mul_right _ (by omega)
            omega
        have HS : Hid (d = a / 2 * 2 ^ (k + 1)) := by
          rw [HA.out, Nat.pow_succ, Nat.mul_comm (2 ^ k) 2, ← Nat.mul_assoc]
          show a * 2 ^ k = a / 2 * 2 * 2 ^ k
          rw [show a / 2 * 2 = a by omega]
        clear ha
        go_wp2
        go_round
        case rel => exact ⟨a / 2, k + 1, HS.out, by omega, by go_num, by go_num⟩
        case measure => simp [intOf]; omega
      · have g : ((a : Int) % 2 == 0) = false := beq_eq_false_iff_ne.2 (by omega)
        obtain ⟨rfl, hp⟩ := PU.out a k (by omega) ha
        have HP := hid_of hp
        clear ha hp
        go_wp2
        go_ret3
        exact ⟨by rw [HP.out]; first | rfl | (simp; done) | (simp; omega), rfl⟩
end Go.Proofs.YtikmollocchfnabDoor
