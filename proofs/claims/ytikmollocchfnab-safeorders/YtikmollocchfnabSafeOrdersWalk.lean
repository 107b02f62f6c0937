/- SafeOrders: the walk of the law. -/
import Derived.Test.YtikmollocchfnabOrderB
namespace Go.Proofs.Ytikmollocchfnab
open Go.RowKit

theorem box4 {w w' : World} {c0 c1 c2 c3 : Value} {T : TypeId} (h : Kept (w.alloc (.cells #[c0, c1, c2, c3] T)) w') :
    w'.cell? ⟨w.heap.size, 0, none⟩ = some c0 ∧ w'.cell? ⟨w.heap.size, 1, none⟩ = some c1 ∧ w'.cell? ⟨w.heap.size, 2, none⟩ = some c2 ∧ w'.cell? ⟨w.heap.size, 3, none⟩ = some c3 :=
  ⟨h.cell (by simp [go_sem]), h.cell (by simp [go_sem]), h.cell (by simp [go_sem]), h.cell (by simp [go_sem])⟩

theorem ordv_half : ordv 1 2 2 3 = (-1, 0) := by decide

theorem mul_pair (a b p i : Int) (w : World) (a1 : -9223372036854775808 ≤ a) (a2 : a ≤ 9223372036854775807) (b1 : -9223372036854775808 ≤ b) (b2 : b ≤ 9223372036854775807) (h : Hid (narrow (a * b) = (p, i))) :
    Calls Try.prog 7 #[.int .i64 a, .int .i64 b] w fun e w' => e = .returned (.tuple #[.int .i64 p, .int .i64 i]) ∧ Kept w w' := by
  have := mul_calls a b w a1 a2 b1 b2
  rw [h.out] at this
  exact this

theorem narrow_cases {z p i : Int} (h : narrow z = (p, i)) : (i = 0 ∧ p = z ∧ -9223372036854775808 ≤ z ∧ z ≤ 9223372036854775807) ∨ (i = 10 ∧ p = 0) := by
  unfold narrow at h
  split at h
  · rename_i c
    simp only [Prod.mk.injEq] at h
    exact .inl ⟨h.2.symm, h.1.symm, c.1, c.2⟩
  · simp only [Prod.mk.injEq] at h
    exact .inr ⟨h.2.symm, h.1.symm⟩

set_option maxRecDepth 100000 in
set_option linter.unusedSimpArgs false in
set_option maxHeartbeats 4000000 in
theorem safeOrdersWalk (a b c d k : Int) (a1 : -9223372036854775808 ≤ a) (a2 : a ≤ 9223372036854775807) (b1 : -9223372036854775808 ≤ b) (b2 : b ≤ 9223372036854775807)
    (c1 : -9223372036854775808 ≤ c) (c2 : c ≤ 9223372036854775807) (d1 : -9223372036854775808 ≤ d) (d2 : d ≤ 9223372036854775807) (k1 : -9223372036854775808 ≤ k) (k2 : k ≤ 9223372036854775807) (w : World) :
    Calls Try.prog 3 #[.agg #[.int .i64 a, .int .i64 b, .int .i64 c, .int .i64 d], .int .i64 k] w fun e w' => e = .returned (.bool true) ∧ Kept w w' := by
  obtain ⟨n, e0, hne⟩ : ∃ n e0, ordv a b c d = (n, e0) := ⟨_, _, rfl⟩
  have hsw : ordv c d a b = (-n, e0) := by rw [ordv_swap, hne]
  have hbd := ordv_bd a b c d
  rw [hne] at hbd
  have n1 : -1 ≤ n := hbd.1
  have n2 : n ≤ 1 := hbd.2
  have hco := ordv_code a b c d
  rw [hne] at hco
  have HC : Hid ((e0 = 11 ∧ (b = 0 ∨ d = 0)) ∨ (e0 = 0 ∧ b ≠ 0 ∧ d ≠ 0)) := hco
  have H1 := hid_of hne
  have H2 := hid_of hsw
  clear hne hsw hbd hco
  obtain ⟨p, i, hp⟩ : ∃ p i, narrow (a * k) = (p, i) := ⟨_, _, rfl⟩
  obtain ⟨q, j, hq⟩ : ∃ q j, narrow (b * k) = (q, j) := ⟨_, _, rfl⟩
  have HP := hid_of hp
  have HQ := hid_of hq
  clear hp hq
  go_enter Try.func3, Try.ntmps3
  go_wp2_with fail
  refine (orderP_calls 1 2 2 3 _ (by omega) (by omega) (by omega) (by omega) (by omega) (by omega) (by omega) (by omega) (-1) 0 ordv_half).mono ?_
  rintro e wa ⟨rfl, K1⟩
  obtain ⟨p0, p1, p2, p3⟩ := box4 K1
  go_wp2_with fail
  refine (orderP_calls a b c d _ a1 a2 b1 b2 c1 c2 d1 d2 n e0 H1).mono ?_
  rintro e wb ⟨rfl, K2⟩
  have K2' := K1.trans K2
  obtain ⟨p0, p1, p2, p3⟩ := box4 K2'
  clear K1 K2
  go_wp2_with fail
  refine (orderR_calls a b c d _ a1 a2 b1 b2 c1 c2 d1 d2 n e0 H1).mono ?_
  rintro e wc ⟨rfl, K3⟩
  have K3' := K2'.trans K3
  obtain ⟨p0, p1, p2, p3⟩ := box4 K3'
  clear K2' K3
  go_wp2_with fail
  refine (orderP_calls c d a b _ c1 c2 d1 d2 a1 a2 b1 b2 (-n) e0 H2).mono ?_
  rintro e wd ⟨rfl, K4⟩
  have K4' := K3'.trans K4
  obtain ⟨p0, p1, p2, p3⟩ := box4 K4'
  clear K3' K4
  have q1 : (n != n) = false := by simp
  have q2 : (e0 != e0) = false := by simp
  go_wp2_with fail
  refine (mul_pair a k p i _ a1 a2 k1 k2 HP).mono ?_
  rintro e we ⟨rfl, K5⟩
  have K5' := K4'.trans K5
  obtain ⟨p0, p1, p2, p3⟩ := box4 K5'
  clear K4' K5
  go_wp2_with fail
  refine (mul_pair b k q j _ b1 b2 k1 k2 HQ).mono ?_
  rintro e wf ⟨rfl, K6⟩
  have K6' := K5'.trans K6
  obtain ⟨p0, p1, p2, p3⟩ := box4 K6'
  clear K5' K6
  have KE : Kept w wf := ((Kept.refl _).alloc _).trans K6'
  clear K6'
  rcases HC.out with ⟨rfl, _⟩ | ⟨rfl, hb, hd⟩
  · clear HC H1 H2 HP HQ q2
    go_wp2
    go_ret
    exact ⟨rfl, KE⟩
  clear HC q2 H2
  rcases narrow_cases HP.out with ⟨rfl, rfl, x1, x2⟩ | ⟨rfl, rfl⟩
  case inr =>
    clear H1 HP HQ
    go_wp2
    go_ret
    exact ⟨rfl, KE⟩
  rcases narrow_cases HQ.out with ⟨rfl, rfl, y1, y2⟩ | ⟨rfl, rfl⟩
  case inr =>
    clear H1 HP HQ
    go_wp2
    go_ret
    exact ⟨rfl, KE⟩
  clear HP HQ H1
  by_cases hk : k = 0
  · have hk0 : (k == 0) = true := by simp [hk]
    clear hk
    go_wp2
    go_ret
    exact ⟨rfl, KE⟩
  have hk0 : (k == 0) = false := by simp [hk]
  have HS : Hid (ordv a b (a * k) (b * k) = (0, 0)) := ordv_same a b k hb hk
  clear hk hb hd
  generalize a * k = ak at x1 x2 HS
  generalize b * k = bk at y1 y2 HS
  go_wp2_with fail
  refine (orderP_calls a b ak bk _ a1 a2 b1 b2 x1 x2 y1 y2 0 0 HS).mono ?_
  rintro e wg ⟨rfl, K7⟩
  go_wp2
  go_ret
  exact ⟨rfl, KE.trans K7⟩
end Go.Proofs.Ytikmollocchfnab
