/- The order of labels, in the document. -/
import Derived.Test.YtikmollocchfnabStrict
namespace Go.Proofs.Ytikmollocchfnab
open Go.RowKit

/-- A number, an infinity, no number. -/
def fcls (x : Nat) : Int := if Fl.nan x then 2 else if x % 9223372036854775808 = 9218868437227405312 then 1 else 0

set_option maxHeartbeats 1000000 in
theorem class_calls (x : Nat) (hx : x < 18446744073709551616) (w : World) : Calls Try.prog 23 #[.int .u64 (x : Int)] w fun e w' => e = .returned (.int .i64 (fcls x)) ∧ w = w' := by
  by_cases h1 : x / 4503599627370496 % 2048 = 2047
  · have q1 : ((x : Int) / 4503599627370496 % 2048 != 2047) = false := by simp; omega
    by_cases h2 : x % 4503599627370496 = 0
    · have q2 : ((x : Int) % 4503599627370496 == 0) = true := by simp; omega
      have e : fcls x = 1 := by unfold fcls; rw [if_neg (show ¬ Fl.nan x by unfold Fl.nan; omega), if_pos (show x % 9223372036854775808 = 9218868437227405312 by omega)]
      rw [e]
      clear e h1 h2
      go_enter Try.func23, Try.ntmps23
      go_wp2
      go_ret
      exact ⟨rfl, rfl⟩
    · have q2 : ((x : Int) % 4503599627370496 == 0) = false := by simp; omega
      have e : fcls x = 2 := by unfold fcls; rw [if_pos (show Fl.nan x by unfold Fl.nan; omega)]
      rw [e]
      clear e h1 h2
      go_enter Try.func23, Try.ntmps23
      go_wp2
      go_ret
      exact ⟨rfl, rfl⟩
  · have q1 : ((x : Int) / 4503599627370496 % 2048 != 2047) = true := by simp; omega
    have e : fcls x = 0 := by unfold fcls; rw [if_neg (show ¬ Fl.nan x by unfold Fl.nan; omega), if_neg (show ¬ x % 9223372036854775808 = 9218868437227405312 by omega)]
    rw [e]
    clear e h1
    go_enter Try.func23, Try.ntmps23
    go_wp2
    go_ret
    exact ⟨rfl, rfl⟩

def fturn (x : Nat) : Int := if 9223372036854775808 ≤ x then 18446744073709551615 - (x : Int) else (x : Int) + 9223372036854775808

theorem compl64 (x : Nat) (hx : x < 18446744073709551616) : bits .xor .u64 18446744073709551615 (x : Int) = 18446744073709551615 - (x : Int) := by
  have h := u64_xor_nat 18446744073709551615 x (by omega) hx
  have e : (18446744073709551615 ^^^ x : Nat) = 18446744073709551615 - x := by
    have := BitVec.toNat_not (x := BitVec.ofNat 64 x)
    have e1 : (BitVec.ofNat 64 x).toNat = x := by simp; omega
    rw [e1] at this
    have h2 : (~~~ (BitVec.ofNat 64 x)) = BitVec.allOnes 64 ^^^ BitVec.ofNat 64 x := (BitVec.allOnes_xor).symm
    rw [h2, BitVec.toNat_xor, e1, BitVec.toNat_allOnes] at this
    exact this
  rw [e] at h
  rw [show ((18446744073709551615 : Nat) : Int) = 18446744073709551615 from rfl] at h
  rw [h]
  omega

set_option maxHeartbeats 1000000 in
theorem turned_calls (x : Nat) (hx : x < 18446744073709551616) (w : World) : Calls Try.prog 24 #[.int .u64 (x : Int)] w fun e w' => e = .returned (.int .u64 (fturn x)) ∧ w = w' := by
  by_cases h : 9223372036854775808 ≤ x
  · have q1 : ((x : Int) / 9223372036854775808 == 1) = true := by simp; omega
    have e : fturn x = 18446744073709551615 - (x : Int) := by unfold fturn; rw [if_pos h]
    rw [e]
    have c : bits .xor .u64 IntKind.u64.max (x : Int) = 18446744073709551615 - (x : Int) := compl64 x hx
    clear e h
    go_enter Try.func24, Try.ntmps24
    go_wp2
    go_ret
    exact ⟨rfl, rfl⟩
  · have q1 : ((x : Int) / 9223372036854775808 == 1) = false := by simp; omega
    have e : fturn x = (x : Int) + 9223372036854775808 := by unfold fturn; rw [if_neg h]
    rw [e]
    have b1 : (x : Int) + 9223372036854775808 ≤ 18446744073709551615 := by omega
    clear e
    go_enter Try.func24, Try.ntmps24
    go_wp2
    go_ret
    exact ⟨rfl, rfl⟩

/-- What the document holds against each other. -/
def fput (x : Nat) : Int := if fcls x = 2 then 18446744073709551615 else fturn x

theorem fput_facts (x : Nat) (hx : x < 18446744073709551616) : (fcls x = 2 ∨ fcls x = 1 ∨ fcls x = 0) ∧ 0 ≤ fturn x ∧ fturn x ≤ 18446744073709551615 ∧
    ((Fl.nan x ∧ fcls x = 2 ∧ fput x = 18446744073709551615) ∨ (¬ Fl.nan x ∧ fcls x ≠ 2 ∧ fput x = fkey x + 9223372036854775808 ∧ fput x < 18446744073709551615)) := by
  have hK := key_facts x hx
  refine ⟨by unfold fcls; split; exact .inl rfl; split; exact .inr (.inl rfl); exact .inr (.inr rfl), by unfold fturn; split <;> omega, by unfold fturn; split <;> omega, ?_⟩
  by_cases h : Fl.nan x
  · left
    have e : fcls x = 2 := by unfold fcls; rw [if_pos h]
    exact ⟨h, e, by unfold fput; rw [if_pos e]⟩
  · right
    have e : fcls x ≠ 2 := by unfold fcls; rw [if_neg h]; split <;> decide
    have hb : x % 9223372036854775808 ≤ 9218868437227405312 := by unfold Fl.nan at h; omega
    have e2 : fput x = fkey x + 9223372036854775808 := by
      unfold fput fkey fturn fneg
      rw [if_neg e, if_neg h]
      by_cases c : 9223372036854775808 ≤ x
      · rw [if_pos c, decide_eq_true c, if_pos rfl]; omega
      · rw [if_neg c, decide_eq_false c, if_neg (by decide)]
    refine ⟨h, e, e2, ?_⟩
    have := hK.resolve_left (fun t => h t.1)
    omega

theorem cmp_put (x y : Nat) (hx : x < 18446744073709551616) (hy : y < 18446744073709551616) : Dg.cmp (fput x) (fput y) = Dg.cmp (fkey x) (fkey y) := by
  obtain ⟨-, -, -, X⟩ := fput_facts x hx
  obtain ⟨-, -, -, Y⟩ := fput_facts y hy
  have KX := key_facts x hx
  have KY := key_facts y hy
  rcases X with ⟨nx, _, ex⟩ | ⟨nx, _, ex, lx⟩
  · have := KX.resolve_right (by rintro (⟨h, _⟩ | ⟨h, _⟩) <;> exact h nx)
    rcases Y with ⟨ny, _, ey⟩ | ⟨ny, _, ey, ly⟩
    · have := KY.resolve_right (by rintro (⟨h, _⟩ | ⟨h, _⟩) <;> exact h ny)
      rw [Dg.cmp_eq (by omega), Dg.cmp_eq (by omega)]
    · have := KY.resolve_left (fun t => ny t.1)
      rw [Dg.cmp_gt (by omega), Dg.cmp_gt (by omega)]
  · have := KX.resolve_left (fun t => nx t.1)
    rcases Y with ⟨ny, _, ey⟩ | ⟨ny, _, ey, ly⟩
    · have := KY.resolve_right (by rintro (⟨h, _⟩ | ⟨h, _⟩) <;> exact h ny)
      rw [Dg.cmp_lt (by omega), Dg.cmp_lt (by omega)]
    · rw [ex, ey]
      by_cases c : fkey x < fkey y
      · rw [Dg.cmp_lt c, Dg.cmp_lt (by omega)]
      · by_cases d : fkey x = fkey y
        · rw [Dg.cmp_eq d, Dg.cmp_eq (by omega)]
        · rw [Dg.cmp_gt (x := fkey x) (by omega), Dg.cmp_gt (by omega)]

set_option maxHeartbeats 2000000 in
theorem strictR_calls (x y : Nat) (hx : x < 18446744073709551616) (hy : y < 18446744073709551616) (w : World) :
    Calls Try.prog 14 #[.int .u64 (x : Int), .int .u64 (y : Int)] w fun e w' => e = .returned (.int .i64 (Dg.cmp (fkey x) (fkey y))) ∧ w = w' := by
  rw [← cmp_put x y hx hy]
  obtain ⟨a0, a1, a2, -⟩ := fput_facts x hx
  obtain ⟨b0, b1, b2, -⟩ := fput_facts y hy
  obtain ⟨p, ep⟩ : ∃ p, fput x = p := ⟨_, rfl⟩
  obtain ⟨q, eq⟩ : ∃ q, fput y = q := ⟨_, rfl⟩
  rw [ep, eq]
  have C1 : Hid (∀ w : World, Calls Try.prog 23 #[.int .u64 (x : Int)] w fun e w' => e = .returned (.int .i64 (fcls x)) ∧ w = w') := fun w => class_calls x hx w
  have C2 : Hid (∀ w : World, Calls Try.prog 23 #[.int .u64 (y : Int)] w fun e w' => e = .returned (.int .i64 (fcls y)) ∧ w = w') := fun w => class_calls y hy w
  have T1 : Hid (∀ w : World, Calls Try.prog 24 #[.int .u64 (x : Int)] w fun e w' => e = .returned (.int .u64 (fturn x)) ∧ w = w') := fun w => turned_calls x hx w
  have T2 : Hid (∀ w : World, Calls Try.prog 24 #[.int .u64 (y : Int)] w fun e w' => e = .returned (.int .u64 (fturn y)) ∧ w = w') := fun w => turned_calls y hy w
  unfold fput at ep eq
  have EP := hid_of ep
  have EQ := hid_of eq
  clear ep eq
  generalize fcls x = c at a0 C1 EP
  generalize fcls y = d at b0 C2 EQ
  generalize fturn x = s at a1 a2 T1 EP
  generalize fturn y = t at b1 b2 T2 EQ
  have cases3 : ∀ p q : Int, (p < q ∧ Dg.cmp p q = -1) ∨ (¬ p < q ∧ q < p ∧ Dg.cmp p q = 1) ∨ (¬ p < q ∧ ¬ q < p ∧ Dg.cmp p q = 0) := fun p q => by
    unfold Dg.cmp; split; exact .inl ⟨‹_›, rfl⟩; split; exact .inr (.inr ⟨‹_›, by omega, rfl⟩); exact .inr (.inl ⟨‹_›, by omega, rfl⟩)
  have HC := hid_of (cases3 p q)
  clear cases3
  have e1 : ((c == 2) = true ∧ p = 18446744073709551615) ∨ ((c == 2) = false ∧ p = s) := by
    by_cases h : c = 2
    · exact .inl ⟨by simp [h], by have := EP.out; rw [if_pos h] at this; exact this.symm⟩
    · exact .inr ⟨by simp [h], by have := EP.out; rw [if_neg h] at this; exact this.symm⟩
  have e2 : ((d == 2) = true ∧ q = 18446744073709551615) ∨ ((d == 2) = false ∧ q = t) := by
    by_cases h : d = 2
    · exact .inl ⟨by simp [h], by have := EQ.out; rw [if_pos h] at this; exact this.symm⟩
    · exact .inr ⟨by simp [h], by have := EQ.out; rw [if_neg h] at this; exact this.symm⟩
  clear EP EQ a0 b0
  rcases e1 with ⟨h1, rfl⟩ | ⟨h1, rfl⟩ <;> rcases e2 with ⟨h2, rfl⟩ | ⟨h2, rfl⟩ <;> rcases HC.out with ⟨g1, g3⟩ | ⟨g1, g2, g3⟩ | ⟨g1, g2, g3⟩ <;> rw [g3] <;> clear HC g3 <;>
    first
    | (exfalso; omega)
    | (go_enter Try.func14, Try.ntmps14
       go_wp2_with (first | (go_at_call_of 24 (Value.int IntKind.u64 x); refine (T1.out _).mono ?_; rintro e w' ⟨rfl, rfl⟩) | (go_at_call 24; refine (T2.out _).mono ?_; rintro e w' ⟨rfl, rfl⟩) | (go_at_call_of 23 (Value.int IntKind.u64 x); refine (C1.out _).mono ?_; rintro e w' ⟨rfl, rfl⟩) | (go_at_call 23; refine (C2.out _).mono ?_; rintro e w' ⟨rfl, rfl⟩))
       go_ret
       exact ⟨rfl, rfl⟩)
end Go.Proofs.Ytikmollocchfnab
