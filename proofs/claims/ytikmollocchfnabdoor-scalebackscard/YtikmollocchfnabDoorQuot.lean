/- The nearest float64 to a fraction, in the program. -/
import Derived.Test.YtikmollocchfnabDoorDiv64
import Derived.Test.YtikmollocchfnabDoorFlX
namespace Go.Proofs.YtikmollocchfnabDoor
open Go.RowKit

/-- The word of a fraction, and the code. -/
def quoWord (n d : Int) : Nat := if d = 0 ∨ n = 0 then 0 else Ieee.double.word (decide (n < 0) != decide (d < 0)) (Fl.quo n.natAbs d.natAbs)
def quoCode (d : Int) : Int := if d = 0 then 11 else 0

theorem half_join (U hi lo : Nat) (h1 : U / 2 = hi) (h2 : U % 2 * 9223372036854775808 = lo) : hi * 18446744073709551616 + lo = U * 9223372036854775808 := by
  have hd := Nat.div_add_mod U 2
  rw [h1] at hd
  rw [← h2]
  generalize U % 2 = b at hd
  rw [← hd, Nat.add_mul, Nat.mul_comm 2 hi, Nat.mul_assoc]
theorem low_word (U lo : Nat) (h2 : U % 2 * 9223372036854775808 = lo) : IntKind.u64.wrap ((U : Int) * 9223372036854775808) = (lo : Int) := by
  rw [IntKind.wrap_u64, ← h2]
  have hd := Nat.div_add_mod U 2
  have hb : U % 2 < 2 := Nat.mod_lt _ (by omega)
  generalize U % 2 = b at hd hb
  generalize U / 2 = h at hd
  subst hd
  have : b = 0 ∨ b = 1 := by omega
  rcases this with rfl | rfl <;> omega
theorem two_halves (L : Nat) : L / 4294967296 * 4294967296 + L % 4294967296 = L := by omega

theorem ex_nat (x : Nat) : ∃ y, x = y := ⟨x, rfl⟩

/-- The digits of the fraction that are rounded. -/
theorem quo_digits (A B su sl : Nat) (hA : 0 < A) (hB : 0 < B) (hB2 : B ≤ 9223372036854775808) (u1 : 9223372036854775808 ≤ A * 2 ^ su) (l1 : 9223372036854775808 ≤ B * 2 ^ sl) (l2 : B * 2 ^ sl < 18446744073709551616) :
    4611686018427387904 ≤ A * 2 ^ su * 9223372036854775808 / (B * 2 ^ sl) ∧
    Fl.near (A * 2 ^ su * 9223372036854775808 / (B * 2 ^ sl)) (A * 2 ^ su * 9223372036854775808 % (B * 2 ^ sl) != 0) ((sl : Int) - su - 63) = Fl.quo A B := by
  have h0 : 4611686018427387904 ≤ A * 2 ^ su * 9223372036854775808 / (B * 2 ^ sl) := by
    rw [Nat.le_div_iff_mul_le (by omega)]
    omega
  refine ⟨h0, ?_⟩
  refine Fl.quo_eq A B _ _ _ hA hB hB2 (by omega) (by omega) ?_
  obtain ⟨x, hx⟩ : ∃ x, ((sl : Int) - su - 63 + 120).toNat = x := ⟨_, rfl⟩
  obtain ⟨y, hy⟩ : ∃ y, (-120 - ((sl : Int) - su - 63)).toNat = y := ⟨_, rfl⟩
  rw [hx, hy]
  have hxy : su + 63 + x = 120 + sl + y := by omega
  have e63 : 9223372036854775808 = 2 ^ 63 := by decide
  rw [e63]
  calc A * 2 ^ su * 2 ^ 63 * B * 2 ^ x = A * B * (2 ^ su * 2 ^ 63 * 2 ^ x) := by ac_rfl
    _ = A * B * (2 ^ 120 * 2 ^ sl * 2 ^ y) := by rw [← Nat.pow_add, ← Nat.pow_add, hxy, Nat.pow_add, Nat.pow_add]
    _ = A * 2 ^ 120 * (B * 2 ^ sl) * 2 ^ y := by ac_rfl

set_option maxRecDepth 100000 in
set_option maxHeartbeats 2000000 in
theorem quotient_calls (n d : Int) (n1 : -9223372036854775808 ≤ n) (n2 : n ≤ 9223372036854775807) (d1 : -9223372036854775808 ≤ d) (d2 : d ≤ 9223372036854775807) (w : World) :
    Calls Tryd.prog 11 #[.int .i64 n, .int .i64 d] w fun e w' => e = .returned (.tuple #[.float .f64 (quoWord n d), .int .i64 (quoCode d)]) ∧ Kept w w' := by
  by_cases hd : d = 0
  · have e1 : quoWord n d = 0 := by unfold quoWord; rw [if_pos (.inl hd)]
    have e2 : quoCode d = 11 := by unfold quoCode; rw [if_pos hd]
    rw [e1, e2]
    have q1 : (d == 0) = true := by simp [hd]
    clear hd e1 e2
    go_enter Tryd.func11, Tryd.ntmps11
    go_wp2
    go_ret2
    exact ⟨rfl, Kept.refl _⟩
  have q1 : (d == 0) = false := by simp [hd]
  have e2 : quoCode d = 0 := by unfold quoCode; rw [if_neg hd]
  rw [e2]
  clear e2
  by_cases hn : n = 0
  · have e1 : quoWord n d = 0 := by unfold quoWord; rw [if_pos (.inr hn)]
    rw [e1]
    have q2 : (n == 0) = true := by simp [hn]
    clear hn e1
    go_enter Tryd.func11, Tryd.ntmps11
    go_wp2
    go_ret2
    exact ⟨rfl, Kept.refl _⟩
  have q2 : (n == 0) = false := by simp [hn]
  have e1 : quoWord n d = Ieee.double.word (decide (n < 0) != decide (d < 0)) (Fl.quo n.natAbs d.natAbs) := by unfold quoWord; rw [if_neg (by omega)]
  rw [e1]
  clear e1
  have M1 := hid_of (fun w => magnitude_calls n n1 n2 w)
  have M2 := hid_of (fun w => magnitude_calls d d1 d2 w)
  have A0 : 0 < n.natAbs := by omega
  have B0 : 0 < d.natAbs := by omega
  have A1 : n.natAbs ≤ 9223372036854775808 := by omega
  have B1 : d.natAbs ≤ 9223372036854775808 := by omega
  generalize n.natAbs = A at M1 A0 A1
  generalize d.natAbs = B at M2 B0 B1
  obtain ⟨su, s1, s2, _, s4, s5⟩ := shift_facts A (by omega) (by omega)
  obtain ⟨sl, t1, t2, _, t4, t5⟩ := shift_facts B (by omega) (by omega)
  have C1 := hid_of (fun w => lz64_nat A su (by omega) s1 w)
  have C2 := hid_of (fun w => lz64_nat B sl (by omega) t1 w)
  clear s1 t1
  obtain ⟨g1, g2⟩ := quo_digits A B su sl A0 B0 B1 s4 t4 t5
  rw [← g2]
  clear g2
  have hwU : IntKind.u64.wrap ((A : Int) * 2 ^ su) = ((A * 2 ^ su : Nat) : Int) := by rw [two_pow_int, ← Int.natCast_mul]; exact uwrap _ s5
  have hwL : IntKind.u64.wrap ((B : Int) * 2 ^ sl) = ((B * 2 ^ sl : Nat) : Int) := by rw [two_pow_int, ← Int.natCast_mul]; exact uwrap _ t5
  generalize A * 2 ^ su = U at s4 s5 hwU g1
  generalize B * 2 ^ sl = L at t4 t5 hwL g1
  obtain ⟨hi, hhi⟩ := ex_nat (U / 2)
  obtain ⟨lo, hlo⟩ := ex_nat (U % 2 * 9223372036854775808)
  have hU := half_join U hi lo hhi hlo
  have v1 : (U : Int) / 2 = (hi : Int) := by omega
  have v2 := low_word U lo hlo
  have DC := div64_calls hi lo (L / 4294967296) (L % 4294967296) (lo / 4294967296) (lo % 4294967296) (by omega) (by omega) (by omega) (by omega) (by omega) (by omega) (by omega) (by omega)
  rw [two_halves, hU] at DC
  have HDC := hid_of DC
  have g3 : U * 9223372036854775808 / L < 18446744073709551616 := by
    rw [Nat.div_lt_iff_lt_mul (by omega)]
    omega
  clear DC hU hhi hlo
  obtain ⟨N, hN⟩ := ex_nat (U * 9223372036854775808 / L)
  obtain ⟨r, hr⟩ := ex_nat (U * 9223372036854775808 % L)
  rw [hN, hr] at HDC ⊢
  rw [hN] at g1 g3
  clear hN hr
  have hlog : 62 ≤ N.log2 := by
    have h2 := Fl.log2_hi N
    by_cases c : 62 ≤ N.log2
    · exact c
    · have : 2 ^ (N.log2 + 1) ≤ 2 ^ 62 := Nat.pow_le_pow_right (by omega) (by omega)
      omega
  have NC := hid_of (fun neg s w => nearest_calls neg N s ((sl : Int) - su - 63) (by omega) g3 (fun _ => by unfold Fl.lastOf; omega) (by omega) (by omega) w)
  have hb : ((r : Int) != 0) = (r != 0) := by
    by_cases h : r = 0
    · subst h; rfl
    · have h1 : (r != 0) = true := by simp [h]
      have h2 : ((r : Int) != 0) = true := by simp [h]
      rw [h1, h2]
  clear A0 A1 B0 B1 hlog g1 g3
  go_enter Tryd.func11, Tryd.ntmps11
  go_wp2_with (first | (go_at_call_of 23 (Value.int IntKind.i64 n); refine (M1.out _).mono ?_; rintro e w' ⟨rfl, rfl⟩) | (go_at_call 23; refine (M2.out _).mono ?_; rintro e w' ⟨rfl, rfl⟩) | (go_at_call_of 24 (Value.int IntKind.u64 A); refine (C1.out _).mono ?_; rintro e w' ⟨rfl, rfl⟩) | (go_at_call 24; refine (C2.out _).mono ?_; rintro e w' ⟨rfl, rfl⟩))
  go_quiet (fail)
  go_wp2_with (go_at_call 25; refine (HDC.out _).mono ?_; rintro e w' ⟨rfl, rfl⟩)
  refine (NC.out _ _ _).mono ?_
  rintro e w' ⟨rfl, k, rfl⟩
  go_wp2
  go_ret2
  refine ⟨?_, (Kept.refl _).drewN _⟩

  rfl
end Go.Proofs.YtikmollocchfnabDoor
