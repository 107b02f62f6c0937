/- What Div answers. -/
import Derived.Test.YtalofkabkcpicaaBase
namespace Go.Proofs.Ytalofkabkcpicaa
open Go.RowKit

theorem tdiv_facts (a b : Int) (a1 : -9223372036854775808 ≤ a) (a2 : a ≤ 9223372036854775807) (hb : b ≠ 0) (hx : ¬ (a = -9223372036854775808 ∧ b = -1)) :
    a.tdiv b * b + a.tmod b = a ∧ -9223372036854775808 ≤ a.tdiv b ∧ a.tdiv b ≤ 9223372036854775807 ∧ (a.tmod b ≠ 0 → -4611686018427387904 ≤ a.tdiv b ∧ a.tdiv b ≤ 4611686018427387904) ∧
    (0 < b → -b < a.tmod b ∧ a.tmod b < b) ∧ (b < 0 → b < a.tmod b ∧ a.tmod b < -b) := by
  have e1 : a.tdiv b * b + a.tmod b = a := by rw [Int.mul_comm]; exact Int.mul_tdiv_add_tmod a b
  have e2 : (a.tdiv b).natAbs = a.natAbs / b.natAbs := Int.natAbs_tdiv a b
  have e3 : (a.tmod b).natAbs = a.natAbs % b.natAbs := Int.natAbs_tmod a b
  have e4 : a.natAbs % b.natAbs < b.natAbs := Nat.mod_lt _ (by omega)
  have e5 : a.natAbs / b.natAbs ≤ a.natAbs := Nat.div_le_self _ _
  have e6 : 2 ≤ b.natAbs → a.natAbs / b.natAbs ≤ 4611686018427387904 := by
    intro h
    have h1 : a.natAbs / b.natAbs ≤ a.natAbs / 2 := Nat.div_le_div_left h (by omega)
    omega
  have e7 : b.natAbs = 1 → (b = 1 ∧ a.tdiv b = a) ∨ (b = -1 ∧ a.tdiv b = -a) := by
    intro h
    rcases (by omega : b = 1 ∨ b = -1) with rfl | rfl
    · exact .inl ⟨rfl, by simp⟩
    · exact .inr ⟨rfl, by simp⟩
  have e8 : a.tmod b ≠ 0 → 2 ≤ b.natAbs := by
    intro h
    by_cases h1 : b.natAbs = 1
    · rw [h1, Nat.mod_one] at e3
      omega
    · omega
  refine ⟨e1, ?_, ?_, ?_, ?_, ?_⟩
  · by_cases h : 2 ≤ b.natAbs
    · have := e6 h; omega
    · rcases e7 (by omega) with h | h <;> omega
  · by_cases h : 2 ≤ b.natAbs
    · have := e6 h; omega
    · rcases e7 (by omega) with h | h <;> omega
  · intro h
    have := e6 (e8 h)
    omega
  · intro h; omega
  · intro h; omega

/-- What is asked of a quotient and what is left. -/
def Divides (a b q r : Int) : Prop := q * b + r = a ∧ -9223372036854775808 ≤ q ∧ q ≤ 9223372036854775807 ∧ ((0 < b ∧ 0 ≤ r ∧ r < b) ∨ (b < 0 ∧ b < r ∧ r ≤ 0))

set_option maxHeartbeats 1000000 in
theorem div_zero (a : Int) (w : World) : Calls Try.prog 18 #[.int .i64 a, .int .i64 0] w fun e w' => e = .returned (.tuple #[.int .i64 0, .int .i64 0, .int .i64 11]) ∧ w = w' := by
  go_enter Try.func18, Try.ntmps18
  go_wp2
  go_ret3
  exact ⟨rfl, rfl⟩

set_option maxHeartbeats 1000000 in
theorem div_least (w : World) : Calls Try.prog 18 #[.int .i64 (-9223372036854775808), .int .i64 (-1)] w fun e w' => e = .returned (.tuple #[.int .i64 0, .int .i64 0, .int .i64 10]) ∧ w = w' := by
  go_enter Try.func18, Try.ntmps18
  go_wp2
  go_ret3
  exact ⟨rfl, rfl⟩

set_option maxHeartbeats 1000000 in
theorem div_calls (a b : Int) (w : World) (a1 : -9223372036854775808 ≤ a) (a2 : a ≤ 9223372036854775807) (b1 : -9223372036854775808 ≤ b) (b2 : b ≤ 9223372036854775807) (hb : b ≠ 0) (hx : ¬ (a = -9223372036854775808 ∧ b = -1)) :
    Calls Try.prog 18 #[.int .i64 a, .int .i64 b] w fun e w' => (∃ q r, e = .returned (.tuple #[.int .i64 q, .int .i64 r, .int .i64 0]) ∧ Divides a b q r) ∧ ∃ n, w' = w.drewN n := by
  obtain ⟨f1, f2, f3, f4, f5, f6⟩ := tdiv_facts a b a1 a2 hb hx
  have hb0 : (b == 0) = false := by simp [hb]
  have hb1 : ¬ b = 0 := hb
  have hxx : (a == -9223372036854775808) = false ∨ ((a == -9223372036854775808) = true ∧ (b == -1) = false) := by
    by_cases h : a = -9223372036854775808
    · exact .inr ⟨by simp [h], by simp; exact fun h' => hx ⟨h, h'⟩⟩
    · exact .inl (by simp [h])
  have HF := hid_of (And.intro f1 (And.intro f4 (And.intro f5 f6)))
  clear f1 f4 f5 f6 hx hb
  generalize hq : a.tdiv b = q at *
  generalize hr : a.tmod b = r at *
  have hw : wrap64 q = q := IntWalk.wrap64_in _ ⟨f2, f3⟩
  have hcase : (r != 0) = false ∨ ((r != 0) = true ∧ decide (r < 0) = decide (b < 0)) ∨ ((r != 0) = true ∧ r < 0 ∧ ¬ b < 0) ∨ ((r != 0) = true ∧ ¬ r < 0 ∧ b < 0) := by
    by_cases h0 : r = 0
    · exact .inl (by simp [h0])
    · have h1 : (r != 0) = true := by simp [h0]
      by_cases h2 : r < 0 <;> by_cases h3 : b < 0 <;> simp [h1, h2, h3]
  rcases hxx with h1 | ⟨h1, h2⟩
  all_goals
    go_enter Try.func18, Try.ntmps18
    go_wp2
    go_quiet (fail)
    rcases hcase with g1 | ⟨g1, g2⟩ | ⟨g1, g2, g3⟩ | ⟨g1, g2, g3⟩
    · go_wp2
      go_ret3
      obtain ⟨f1, f4, f5, f6⟩ := HF.out
      simp at g1
      exact ⟨⟨q, r, rfl, f1, f2, f3, by omega⟩, _, rfl⟩
    · go_wp2
      go_ret3
      obtain ⟨f1, f4, f5, f6⟩ := HF.out
      simp at g1 g2
      exact ⟨⟨q, r, rfl, f1, f2, f3, by omega⟩, _, rfl⟩
    · have t1 : -9223372036854775807 ≤ q ∧ -9223372036854775808 ≤ r + b ∧ r + b ≤ 9223372036854775807 := by
        obtain ⟨f1, f4, f5, f6⟩ := HF.out
        simp at g1
        omega
      obtain ⟨t1, t2, t3⟩ := t1
      have u1 : decide (r < 0) = true := by simp; omega
      have u2 : decide (b < 0) = false := by simp; omega
      go_wp2
      go_ret3
      obtain ⟨f1, f4, f5, f6⟩ := HF.out
      simp at g1
      exact ⟨⟨q - 1, r + b, rfl, by rw [Int.sub_mul]; omega, by omega, by omega, by omega⟩, _, rfl⟩
    · have t1 : -9223372036854775807 ≤ q ∧ -9223372036854775808 ≤ r + b ∧ r + b ≤ 9223372036854775807 := by
        obtain ⟨f1, f4, f5, f6⟩ := HF.out
        simp at g1
        omega
      obtain ⟨t1, t2, t3⟩ := t1
      have u1 : decide (r < 0) = false := by simp; omega
      have u2 : decide (b < 0) = true := by simp; omega
      go_wp2
      go_ret3
      obtain ⟨f1, f4, f5, f6⟩ := HF.out
      simp at g1
      exact ⟨⟨q - 1, r + b, rfl, by rw [Int.sub_mul]; omega, by omega, by omega, by omega⟩, _, rfl⟩
end Go.Proofs.Ytalofkabkcpicaa
