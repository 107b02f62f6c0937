/- Numbers of 128 bits: back to 64 bits, products of 64 bits, the order. -/
import Derived.Test.YtikmollocchfnabWide
import Derived.Test.YtikmollocchfnabAbove
namespace Go.Proofs.Ytikmollocchfnab
open Go.RowKit

theorem wrap64_facts (lo : Int) (h1 : 0 ≤ lo) (h2 : lo ≤ 18446744073709551615) : -9223372036854775808 ≤ wrap64 lo ∧ wrap64 lo ≤ 9223372036854775807 ∧ (wrap64 lo = lo ∨ wrap64 lo = lo - 18446744073709551616) := by
  unfold wrap64; omega

set_option maxRecDepth 100000 in
set_option maxHeartbeats 1000000 in
theorem narrowP_calls (hi lo z : Int) (w : World) (h : IsWide hi lo z) :
    Calls Try.prog 20 #[.agg #[.int .i64 hi, .int .u64 lo]] w fun e w' => e = .returned (.tuple #[.int .i64 (narrow z).1, .int .i64 (narrow z).2]) ∧ Kept w w' := by
  obtain ⟨h1, h2, h3, h4, h5⟩ := h
  obtain ⟨f1, f2, f3⟩ := wrap64_facts lo h3 h4
  have HZ := hid_of h5
  have HF := hid_of f3
  clear h5 f3
  obtain ⟨low, hlow⟩ : ∃ low, wrap64 lo = low := ⟨_, rfl⟩
  rw [hlow] at f1 f2 HF
  have p0 : (w.alloc (Obj.cells #[Value.int .i64 hi, Value.int .u64 lo] 45)).cell? ⟨w.heap.size, 0, none⟩ = some (.int .i64 hi) := by simp [go_sem]
  have p1 : (w.alloc (Obj.cells #[Value.int .i64 hi, Value.int .u64 lo] 45)).cell? ⟨w.heap.size, 1, none⟩ = some (.int .u64 lo) := by simp [go_sem]
  go_enter Try.func20, Try.ntmps20
  go_wp2
  refine Ord.region [(0, 0), (2, 1), (1, 2), (3, 0)] (fun w' => Kept (w.alloc (Obj.cells #[Value.int .i64 hi, Value.int .u64 lo] 45)) w') (by kernel_rfl) (by kernel_rfl) (by kernel_rfl) (by kernel_rfl) (fun _ _ d _ _ h => by cases d <;> exact h) ((Kept.refl _).drewN _) ?_
  repeat
    refine Ord.step rfl (fun K hK => ?_)
    simp only [Ord.body]
    go_simp
    first
      | (refine hK _ _ ?_; clear hK K)
      | (refine ⟨_, fun w' hS => (by have c0 := hS.cell p0; have c1 := hS.cell p1; simp only [c0, c1, Result.andThen]; rfl), hK _ _ ?_⟩; clear hK K)
      | (go_at_call 30; refine (widen_calls low _ f1 f2).mono ?_; rintro e wf ⟨⟨hi', lo', rfl, hw⟩, K6⟩; refine ⟨((Kept.refl _).drewN _).trans K6, hK _ _ ?_⟩; clear hK K)
  obtain ⟨w1, w2, w3, w4, w5⟩ := hw
  by_cases hz : -9223372036854775808 ≤ z ∧ z ≤ 9223372036854775807
  · obtain ⟨rfl, rfl⟩ : hi' = hi ∧ lo' = lo := by have := HZ.out; have := HF.out; omega
    have hn : narrow z = (low, 0) := by rw [narrow_in hz.1 hz.2]; have := HZ.out; have := HF.out; congr 1; omega
    have HN := hid_of hn
    clear hn hz w5
    refine Ord.step rfl (fun K hK => ?_)
    simp only [Ord.body]
    go_simp
    refine hK _ _ ?_
    clear hK K
    refine Ord.done ?_
    go_wp2
    go_ret2
    exact ⟨by rw [HN.out]; rfl, (((Kept.refl _).alloc _).drewN _).trans K6⟩
  · obtain rfl : lo' = lo := by have := HZ.out; have := HF.out; omega
    have hne : (hi' == hi) = false := by
      simp only [beq_eq_false_iff_ne]
      intro e
      have := HZ.out
      have := HF.out
      omega
    have hn : narrow z = (0, 10) := narrow_out (by omega)
    have HN := hid_of hn
    clear hn hz w5
    refine Ord.step rfl (fun K hK => ?_)
    simp only [Ord.body]
    go_simp
    refine hK _ _ ?_
    clear hK K
    refine Ord.done ?_
    go_wp2
    go_ret2
    exact ⟨by rw [HN.out]; rfl, (((Kept.refl _).alloc _).drewN _).trans K6⟩

set_option maxHeartbeats 1000000 in
theorem mul_calls (a b : Int) (w : World) (a1 : -9223372036854775808 ≤ a) (a2 : a ≤ 9223372036854775807) (b1 : -9223372036854775808 ≤ b) (b2 : b ≤ 9223372036854775807) :
    Calls Try.prog 7 #[.int .i64 a, .int .i64 b] w fun e w' => e = .returned (.tuple #[.int .i64 (narrow (a * b)).1, .int .i64 (narrow (a * b)).2]) ∧ Kept w w' := by
  go_enter Try.func7, Try.ntmps7
  go_wp2_with fail
  refine (product_calls a b _ a1 a2 b1 b2).mono ?_
  rintro e wa ⟨⟨hi, lo, rfl, hw⟩, K1⟩
  go_wp2_with fail
  refine (narrowP_calls hi lo (a * b) _ hw).mono ?_
  rintro e wb ⟨rfl, K2⟩
  go_wp2
  go_ret2
  exact ⟨rfl, K1.trans K2⟩

set_option maxRecDepth 100000 in
set_option maxHeartbeats 1000000 in
theorem compareP_calls (h1 l1 h2 l2 x y : Int) (w : World) (hx : IsWide h1 l1 x) (hy : IsWide h2 l2 y) :
    Calls Try.prog 16 #[.agg #[.int .i64 h1, .int .u64 l1], .agg #[.int .i64 h2, .int .u64 l2]] w fun e w' => e = .returned (.int .i64 (Dg.cmp x y)) ∧ Kept w w' := by
  have K2 : ∀ o1 o2, Kept w ((w.alloc o1).alloc o2) := fun o1 o2 => ((Kept.refl _).alloc _).alloc _
  obtain ⟨x1, x2, x3, x4, x5⟩ := hx
  obtain ⟨y1, y2, y3, y4, y5⟩ := hy
  by_cases he : h1 = h2
  · subst he
    by_cases hl : l1 = l2
    · subst hl
      rw [Dg.cmp_eq (by omega)]
      clear x5 y5
      go_enter Try.func16, Try.ntmps16
      go_wp2
      go_ret
      exact ⟨rfl, K2 _ _⟩
    · have e2 : (l1 == l2) = false := by simp [hl]
      have e3 : decide (h1 < h1) = false := by simp
      by_cases hlt : l1 < l2
      · rw [Dg.cmp_lt (by omega)]
        clear x5 y5
        go_enter Try.func16, Try.ntmps16
        go_wp2
        go_ret
        exact ⟨rfl, K2 _ _⟩
      · have e4 : decide (l1 < l2) = false := by simp [hlt]
        rw [Dg.cmp_gt (by omega)]
        clear x5 y5
        go_enter Try.func16, Try.ntmps16
        go_wp2
        go_ret
        exact ⟨rfl, K2 _ _⟩
  · have e1 : (h1 == h2) = false := by simp [he]
    by_cases hlt : h1 < h2
    · rw [Dg.cmp_lt (by omega)]
      clear x5 y5
      go_enter Try.func16, Try.ntmps16
      go_wp2
      go_ret
      exact ⟨rfl, K2 _ _⟩
    · have e4 : decide (h1 < h2) = false := by simp [hlt]
      rw [Dg.cmp_gt (by omega)]
      clear x5 y5
      go_enter Try.func16, Try.ntmps16
      go_wp2
      go_ret
      exact ⟨rfl, K2 _ _⟩
end Go.Proofs.Ytikmollocchfnab
