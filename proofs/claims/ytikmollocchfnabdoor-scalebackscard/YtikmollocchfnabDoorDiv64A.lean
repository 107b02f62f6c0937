/- The division of a number of two words by one: plain mathematics. -/
namespace Go.Proofs.YtikmollocchfnabDoor.Dv

/-- A guess of a digit of the quotient that is right. -/
theorem right (a b u v q r Q : Nat) (hQ : Q = (u * 4294967296 + v) / (a * 4294967296 + b)) (hy : 0 < a) (h1 : q * a + r = u) (h2 : Q ≤ q) (h3 : q * b ≤ 4294967296 * r + v) : q = Q := by
  have hle : q ≤ Q := by
    rw [hQ, Nat.le_div_iff_mul_le (by omega), Nat.mul_add, ← Nat.mul_assoc]
    have : u * 4294967296 = q * a * 4294967296 + r * 4294967296 := by rw [← h1, Nat.add_mul]
    omega
  omega

/-- A guess that is too great. -/
theorem great (a b u v q r Q : Nat) (hQ : Q = (u * 4294967296 + v) / (a * 4294967296 + b)) (hy : 0 < a) (h1 : q * a + r = u) (h3 : 4294967296 * r + v < q * b) : Q < q := by
  rw [hQ, Nat.div_lt_iff_lt_mul (by omega), Nat.mul_add, ← Nat.mul_assoc]
  have : u * 4294967296 = q * a * 4294967296 + r * 4294967296 := by rw [← h1, Nat.add_mul]
  omega

/-- The first guess is never too small, and by two too great at most. -/
theorem first (a b u v Q : Nat) (hQ : Q = (u * 4294967296 + v) / (a * 4294967296 + b)) (ha : 2147483648 ≤ a) (hb : b < 4294967296) (hv : v < 4294967296) (hu : u < a * 4294967296 + b) :
    Q ≤ u / a ∧ Q < 4294967296 ∧ u / a ≤ 4294967297 := by
  have hd := Nat.div_add_mod u a
  have hm := Nat.mod_lt u (show 0 < a by omega)
  refine ⟨?_, ?_, ?_⟩
  · have : Q < u / a + 1 := by
      rw [hQ, Nat.div_lt_iff_lt_mul (by omega), Nat.add_mul, Nat.mul_add, ← Nat.mul_assoc]
      have e : u * 4294967296 = a * (u / a) * 4294967296 + u % a * 4294967296 := by
        conv => lhs; rw [← hd, Nat.add_mul]
      have e2 : a * (u / a) = u / a * a := Nat.mul_comm _ _
      rw [e2] at e
      have : u % a * 4294967296 + 4294967296 ≤ a * 4294967296 := by omega
      have := Nat.zero_le (u / a * b)
      omega
    omega
  · rw [hQ, Nat.div_lt_iff_lt_mul (by omega)]
    omega
  · have : u / a < 4294967298 := by
      rw [Nat.div_lt_iff_lt_mul (by omega)]
      omega
    omega

theorem two (hi lo a b v c Q1 R1 Q0 : Nat) (hlo : lo = v * 4294967296 + c) (hy : 0 < a) (h1 : Q1 = (hi * 4294967296 + v) / (a * 4294967296 + b)) (h2 : R1 = (hi * 4294967296 + v) % (a * 4294967296 + b)) (h3 : Q0 = (R1 * 4294967296 + c) / (a * 4294967296 + b)) :
    Q1 * 4294967296 + Q0 = (hi * 18446744073709551616 + lo) / (a * 4294967296 + b) ∧ (R1 * 4294967296 + c) % (a * 4294967296 + b) = (hi * 18446744073709551616 + lo) % (a * 4294967296 + b) := by
  have hY : 0 < a * 4294967296 + b := by omega
  obtain ⟨y, hyy⟩ : ∃ y, a * 4294967296 + b = y := ⟨_, rfl⟩
  rw [hyy] at hY h1 h2 h3 ⊢
  clear hyy
  have d1 := Nat.div_add_mod (hi * 4294967296 + v) y
  have d0 := Nat.div_add_mod (R1 * 4294967296 + c) y
  rw [← h1, ← h2] at d1
  rw [← h3] at d0
  have hr := Nat.mod_lt (R1 * 4294967296 + c) hY
  have hr1 : R1 < y := by rw [h2]; exact Nat.mod_lt _ hY
  obtain ⟨r, er⟩ : ∃ r, (R1 * 4294967296 + c) % y = r := ⟨_, rfl⟩
  rw [er] at d0 hr ⊢
  have e : hi * 18446744073709551616 + lo = y * (Q1 * 4294967296 + Q0) + r := by
    rw [Nat.mul_add, ← Nat.mul_assoc]
    omega
  have hQ : (hi * 18446744073709551616 + lo) / y = Q1 * 4294967296 + Q0 := by
    rw [e, Nat.mul_add_div hY, Nat.div_eq_of_lt hr, Nat.add_zero]
  have hR : (hi * 18446744073709551616 + lo) % y = r := by
    rw [e, Nat.mul_add_mod, Nat.mod_eq_of_lt hr]
  exact ⟨hQ.symm, hR.symm⟩
end Go.Proofs.YtikmollocchfnabDoor.Dv
