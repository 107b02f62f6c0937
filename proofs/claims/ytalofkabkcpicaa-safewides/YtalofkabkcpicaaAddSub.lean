/- What Add, Sub and Plus answer: the sign's bit tells whether a sum wrapped. -/
import Derived.Test.YtalofkabkcpicaaWide2
import Derived.Laws.Externs
namespace Go.Proofs.Ytalofkabkcpicaa
open Go.RowKit

theorem msb_ofInt (a : Int) (h1 : -9223372036854775808 ≤ a) (h2 : a ≤ 9223372036854775807) : (BitVec.ofInt 64 a).msb = decide (a < 0) := by
  rw [BitVec.msb_eq_decide, BitVec.toNat_ofInt]
  by_cases h : a < 0
  · simp only [h, decide_true, decide_eq_true_eq]
    omega
  · simp only [h, decide_false, decide_eq_false_iff_not]
    omega

theorem wrap_msb (x : BitVec 64) : (IntKind.i64.wrap ((x.toNat : Nat) : Int) < 0 ↔ x.msb = true) ∧ -9223372036854775808 ≤ IntKind.i64.wrap ((x.toNat : Nat) : Int) ∧ IntKind.i64.wrap ((x.toNat : Nat) : Int) ≤ 9223372036854775807 := by
  have hx := x.isLt
  rw [IntKind.wrap_i64, BitVec.msb_eq_decide]
  simp only [decide_eq_true_eq]
  omega

theorem xor_sign (a b : Int) (a1 : -9223372036854775808 ≤ a) (a2 : a ≤ 9223372036854775807) (b1 : -9223372036854775808 ≤ b) (b2 : b ≤ 9223372036854775807) :
    (bits .xor .i64 a b < 0 ↔ (decide (a < 0) != decide (b < 0)) = true) ∧ -9223372036854775808 ≤ bits .xor .i64 a b ∧ bits .xor .i64 a b ≤ 9223372036854775807 := by
  have h := wrap_msb (BitVec.ofInt 64 a ^^^ BitVec.ofInt 64 b)
  rw [BitVec.msb_xor, msb_ofInt a a1 a2, msb_ofInt b b1 b2] at h
  exact h

theorem and_sign (a b : Int) (a1 : -9223372036854775808 ≤ a) (a2 : a ≤ 9223372036854775807) (b1 : -9223372036854775808 ≤ b) (b2 : b ≤ 9223372036854775807) :
    bits .and .i64 a b < 0 ↔ (a < 0 ∧ b < 0) := by
  have h := (wrap_msb (BitVec.ofInt 64 a &&& BitVec.ofInt 64 b)).1
  rw [BitVec.msb_and, msb_ofInt a a1 a2, msb_ofInt b b1 b2, Bool.and_eq_true, decide_eq_true_eq, decide_eq_true_eq] at h
  exact h

/-- The test of a sum. -/
theorem add_test (a b s : Int) (a1 : -9223372036854775808 ≤ a) (a2 : a ≤ 9223372036854775807) (b1 : -9223372036854775808 ≤ b) (b2 : b ≤ 9223372036854775807) (s1 : -9223372036854775808 ≤ s) (s2 : s ≤ 9223372036854775807) :
    bits .and .i64 (bits .xor .i64 a s) (bits .xor .i64 b s) < 0 ↔ ((a < 0 ↔ b < 0) ∧ ¬ (a < 0 ↔ s < 0)) := by
  obtain ⟨x1, x2, x3⟩ := xor_sign a s a1 a2 s1 s2
  obtain ⟨y1, y2, y3⟩ := xor_sign b s b1 b2 s1 s2
  rw [and_sign _ _ x2 x3 y2 y3, x1, y1]
  by_cases ha : a < 0 <;> by_cases hb : b < 0 <;> by_cases hs : s < 0 <;> simp [ha, hb, hs]
theorem sub_test (a b s : Int) (a1 : -9223372036854775808 ≤ a) (a2 : a ≤ 9223372036854775807) (b1 : -9223372036854775808 ≤ b) (b2 : b ≤ 9223372036854775807) (s1 : -9223372036854775808 ≤ s) (s2 : s ≤ 9223372036854775807) :
    bits .and .i64 (bits .xor .i64 a b) (bits .xor .i64 a s) < 0 ↔ (¬ (a < 0 ↔ b < 0) ∧ ¬ (a < 0 ↔ s < 0)) := by
  obtain ⟨x1, x2, x3⟩ := xor_sign a b a1 a2 b1 b2
  obtain ⟨y1, y2, y3⟩ := xor_sign a s a1 a2 s1 s2
  rw [and_sign _ _ x2 x3 y2 y3, x1, y1]
  by_cases ha : a < 0 <;> by_cases hb : b < 0 <;> by_cases hs : s < 0 <;> simp [ha, hb, hs]

theorem wrap64_bd (n : Int) : -9223372036854775808 ≤ wrap64 n ∧ wrap64 n ≤ 9223372036854775807 ∧ ∃ k, wrap64 n = n + 18446744073709551616 * k := by
  refine ⟨by unfold wrap64; omega, by unfold wrap64; omega, ?_⟩
  unfold wrap64
  exact ⟨-((n + 9223372036854775808) / 18446744073709551616), by omega⟩

set_option maxHeartbeats 1000000 in
theorem add_calls (a b : Int) (w : World) (a1 : -9223372036854775808 ≤ a) (a2 : a ≤ 9223372036854775807) (b1 : -9223372036854775808 ≤ b) (b2 : b ≤ 9223372036854775807) :
    Calls Try.prog 11 #[.int .i64 a, .int .i64 b] w fun e w' => e = .returned (.tuple #[.int .i64 (narrow (a + b)).1, .int .i64 (narrow (a + b)).2]) ∧ w = w' := by
  obtain ⟨s1, s2, k, hk⟩ := wrap64_bd (a + b)
  have ht := add_test a b (wrap64 (a + b)) a1 a2 b1 b2 s1 s2
  by_cases hr : -9223372036854775808 ≤ a + b ∧ a + b ≤ 9223372036854775807
  · have e1 : wrap64 (a + b) = a + b := IntWalk.wrap64_in _ hr
    rw [e1] at ht
    have hn : ¬ (bits .and .i64 (bits .xor .i64 a (a + b)) (bits .xor .i64 b (a + b)) < 0) := by rw [ht]; omega
    rw [narrow_in hr.1 hr.2]
    obtain ⟨r1, r2⟩ := hr
    clear ht s1 s2 hk e1
    go_enter Try.func11, Try.ntmps11
    go_wp2
    go_ret2
    exact ⟨rfl, rfl⟩
  · have hn : bits .and .i64 (bits .xor .i64 a (wrap64 (a + b))) (bits .xor .i64 b (wrap64 (a + b))) < 0 := by rw [ht]; omega
    rw [narrow_out (by omega)]
    clear ht s1 s2 hk hr
    go_enter Try.func11, Try.ntmps11
    go_wp2
    go_ret2
    exact ⟨rfl, rfl⟩

set_option maxHeartbeats 1000000 in
theorem sub_calls (a b : Int) (w : World) (a1 : -9223372036854775808 ≤ a) (a2 : a ≤ 9223372036854775807) (b1 : -9223372036854775808 ≤ b) (b2 : b ≤ 9223372036854775807) :
    Calls Try.prog 14 #[.int .i64 a, .int .i64 b] w fun e w' => e = .returned (.tuple #[.int .i64 (narrow (a - b)).1, .int .i64 (narrow (a - b)).2]) ∧ w = w' := by
  obtain ⟨s1, s2, k, hk⟩ := wrap64_bd (a - b)
  have ht := sub_test a b (wrap64 (a - b)) a1 a2 b1 b2 s1 s2
  by_cases hr : -9223372036854775808 ≤ a - b ∧ a - b ≤ 9223372036854775807
  · have e1 : wrap64 (a - b) = a - b := IntWalk.wrap64_in _ hr
    rw [e1] at ht
    have hn : ¬ (bits .and .i64 (bits .xor .i64 a b) (bits .xor .i64 a (a - b)) < 0) := by rw [ht]; omega
    rw [narrow_in hr.1 hr.2]
    obtain ⟨r1, r2⟩ := hr
    clear ht s1 s2 hk e1
    go_enter Try.func14, Try.ntmps14
    go_wp2
    go_ret2
    exact ⟨rfl, rfl⟩
  · have hn : bits .and .i64 (bits .xor .i64 a b) (bits .xor .i64 a (wrap64 (a - b))) < 0 := by rw [ht]; omega
    rw [narrow_out (by omega)]
    clear ht s1 s2 hk hr
    go_enter Try.func14, Try.ntmps14
    go_wp2
    go_ret2
    exact ⟨rfl, rfl⟩

theorem add64_run (x y : Int) (hx : 0 ≤ x) (hy : 0 ≤ y) (w : World) : (callFunc 40 #[.int .u64 x, .int .u64 y, .int .u64 0]).run Try.prog w =
    .ok (.value (.tuple #[.int .u64 ((x + y + 0) % 18446744073709551616), .int .u64 ((x + y + 0) / 18446744073709551616)])) w := by
  rw [run_callFunc_extern Try.func40 (by kernel_rfl) (by kernel_rfl) (by kernel_rfl) (e := add64Entry) (by kernel_rfl), run_add64 x y 0 hx hy (by omega) (by omega)]
  rfl

/-- The sum of two numbers of 128 bits, and whether it is one. -/
theorem wide_sum (h1 l1 h2 l2 x y c l : Int) (hx : IsWide h1 l1 x) (hy : IsWide h2 l2 y) (hc : c = (l1 + l2) / 18446744073709551616) (hl : l = (l1 + l2) % 18446744073709551616) :
    0 ≤ c ∧ c ≤ 1 ∧ 0 ≤ l ∧ l ≤ 18446744073709551615 ∧ x + y = (h1 + h2 + c) * 18446744073709551616 + l := by
  obtain ⟨x1, x2, x3, x4, x5⟩ := hx
  obtain ⟨y1, y2, y3, y4, y5⟩ := hy
  omega

def InWide (z : Int) : Prop := -170141183460469231731687303715884105728 ≤ z ∧ z ≤ 170141183460469231731687303715884105727

set_option maxRecDepth 100000 in
set_option maxHeartbeats 1000000 in
theorem plusP_calls (h1 l1 h2 l2 x y : Int) (w : World) (hx : IsWide h1 l1 x) (hy : IsWide h2 l2 y) :
    Calls Try.prog 25 #[.agg #[.int .i64 h1, .int .u64 l1], .agg #[.int .i64 h2, .int .u64 l2]] w fun e w' =>
      ((InWide (x + y) ∧ ∃ hi lo, e = .returned (.tuple #[.agg #[.int .i64 hi, .int .u64 lo], .int .i64 0]) ∧ IsWide hi lo (x + y)) ∨ (¬ InWide (x + y) ∧ e = .returned (.tuple #[.agg #[.int .i64 0, .int .u64 0], .int .i64 10]))) ∧ Kept w w' := by
  have K3 : ∀ o1 o2 o3, Kept w (((w.alloc o1).alloc o2).alloc o3) := fun o1 o2 o3 => (((Kept.refl _).alloc _).alloc _).alloc _
  obtain ⟨c, hc⟩ : ∃ c, (l1 + l2) / 18446744073709551616 = c := ⟨_, rfl⟩
  obtain ⟨l, hl⟩ : ∃ l, (l1 + l2) % 18446744073709551616 = l := ⟨_, rfl⟩
  obtain ⟨c1, c2, l3, l4, hs⟩ := wide_sum h1 l1 h2 l2 x y c l hx hy hc.symm hl.symm
  obtain ⟨x1, x2, x3, x4, x5⟩ := hx
  obtain ⟨y1, y2, y3, y4, y5⟩ := hy
  have hr := fun w => add64_run l1 l2 x3 y3 w
  simp only [Int.add_zero, hc, hl] at hr
  have HS := hid_of hs
  have HL := hid_of (And.intro hc hl)
  clear hs x5 y5 hc hl
  obtain ⟨H, eH⟩ : ∃ H, wrap64 (wrap64 (h1 + h2) + c) = H := ⟨_, rfl⟩
  have hH : -9223372036854775808 ≤ H ∧ H ≤ 9223372036854775807 ∧ ∃ k, H = h1 + h2 + c + 18446744073709551616 * k := by
    obtain ⟨p1, p2, k1, hk1⟩ := wrap64_bd (h1 + h2)
    obtain ⟨q1, q2, k2, hk2⟩ := wrap64_bd (wrap64 (h1 + h2) + c)
    rw [← eH]
    exact ⟨q1, q2, k1 + k2, by omega⟩
  obtain ⟨H1, H2, k, hk⟩ := hH
  have ht := add_test h1 h2 H x1 x2 y1 y2 H1 H2
  by_cases hin : -9223372036854775808 ≤ h1 + h2 + c ∧ h1 + h2 + c ≤ 9223372036854775807
  · have hk0 : H = h1 + h2 + c := by omega
    have hn : ¬ (bits .and .i64 (bits .xor .i64 h1 H) (bits .xor .i64 h2 H) < 0) := by rw [ht]; omega
    have HK := hid_of hk0
    have HI := hid_of hin
    clear ht hk hk0 hin
    go_enter Try.func25, Try.ntmps25
    go_wp2
    go_returns
    refine ⟨.inl ⟨?_, H, l, rfl, H1, H2, l3, l4, ?_⟩, K3 _ _ _⟩
    · have := HS.out
      have := HI.out
      unfold InWide
      omega
    · rw [HS.out, HK.out]
  · have hn : bits .and .i64 (bits .xor .i64 h1 H) (bits .xor .i64 h2 H) < 0 := by rw [ht]; omega
    have HI := hid_of hin
    clear ht hk hin
    go_enter Try.func25, Try.ntmps25
    go_wp2
    go_returns
    refine ⟨.inr ⟨?_, rfl⟩, K3 _ _ _⟩
    have := HS.out
    have := HI.out
    unfold InWide
    omega
end Go.Proofs.Ytalofkabkcpicaa
