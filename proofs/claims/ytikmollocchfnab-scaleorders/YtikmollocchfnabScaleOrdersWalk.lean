/- ScaleOrders: the walk of the law. -/
import Derived.Test.YtikmollocchfnabLeastR
import Derived.Test.YtikmollocchfnabTotalA
namespace Go.Proofs.Ytikmollocchfnab
open Go.RowKit

theorem row_nil (w : World) : Row w none 0 0 [] := ⟨rfl, by omega, by unfold maxLen; omega, fun h => by omega⟩

theorem row_some (x : Addr) (len cap : Nat) (zs : List Int) (w : World) (hl : len ≤ cap) (hm : cap ≤ maxLen) (hz : zs.length = cap) (hcell : ∀ i, i < zs.length → w.cell? (x.add i) = some (.int .u64 (zs.getD i 0))) (hwz : ∀ n ∈ zs, (Lit.int .u64 n).wf = true) :
    ∃ ds : List Nat, Row w (some x) len cap ds ∧ ∀ i, ds.getD i 0 < 18446744073709551616 := by
  have hb : ∀ n ∈ zs, 0 ≤ n ∧ n < 18446744073709551616 := fun n hn => by
    obtain ⟨y, rfl, hy⟩ := nat_of_wf (hwz n hn)
    omega
  have hg : ∀ i, i < zs.length → ((zs.getD i 0).toNat : Int) = zs.getD i 0 ∧ (zs.getD i 0).toNat < 18446744073709551616 := fun i hi => by
    have e : zs.getD i 0 = zs[i] := by simp [List.getD, hi]
    have := hb _ (List.getElem_mem hi)
    rw [e]
    omega
  have hd : ∀ i, i < len → ((zs.take len).map Int.toNat).getD i 0 = (zs.getD i 0).toNat := fun i hi => by
    have h1 : i < zs.length := by omega
    simp [List.getD, hi, h1]
  refine ⟨(zs.take len).map Int.toNat, ⟨by simp; omega, hl, hm, fun hn => ?_⟩, fun i => ?_⟩
  · have h0 := hcell 0 (by omega)
    obtain ⟨b, off, spot⟩ := x
    have hspot : spot = none := by simpa [Addr.add] using World.cell?_spot h0
    subst hspot
    refine ⟨b, off, rfl, fun i hi => ?_⟩
    have h1 := hcell i (by omega)
    rw [hd i hi, (hg i (by omega)).1]
    by_cases hi0 : i = 0
    · subst hi0; simpa [Addr.add] using h1
    · simpa [Addr.add, hi0] using h1
  · by_cases hi : i < len
    · rw [hd i hi]; exact (hg i (by omega)).2
    · simp only [List.getD]
      rw [List.getElem?_eq_none (by simp; omega)]
      decide

theorem cmp_one_two : Dg.cmp (fkey 4607182418800017408) (fkey 4611686018427387904) = -1 := by decide
theorem cmp_zeros : Dg.cmp (fkey 9223372036854775808) (fkey 0) = -1 := by decide

theorem strict_one (w : World) : Calls Try.prog 8 #[.float .f64 4607182418800017408, .float .f64 4611686018427387904] w fun e w' => e = .returned (.int .i64 (-1)) ∧ w = w' := by
  have := strict_calls 4607182418800017408 4611686018427387904 (by omega) (by omega) w
  rw [cmp_one_two] at this
  exact this
theorem strict_zeros (w : World) : Calls Try.prog 8 #[.float .f64 9223372036854775808, .float .f64 0] w fun e w' => e = .returned (.int .i64 (-1)) ∧ w = w' := by
  have := strict_calls 9223372036854775808 0 (by omega) (by omega) w
  rw [cmp_zeros] at this
  exact this

set_option maxRecDepth 100000 in
set_option linter.unusedSimpArgs false in
set_option maxHeartbeats 4000000 in
theorem scaleOrdersWalk (a b : Nat) (ha : a < 18446744073709551616) (hb : b < 18446744073709551616) (ao : Option Addr) (n cap : Nat) (ds : List Nat) (w : World) (h : Row w ao n cap ds) (hw : ∀ i, ds.getD i 0 < 18446744073709551616) (hn : n * 8 ≤ 140737488355328) :
    Calls Try.prog 4 #[.int .u64 (a : Int), .int .u64 (b : Int), .slice ao n cap] w fun e w' => e = .returned (.bool true) ∧ Kept w w' := by
  have f1 := frombits_run a
  have f2 := frombits_run b
  obtain ⟨x, ex⟩ : ∃ x, Dg.cmp (fkey a) (fkey b) = x := ⟨_, rfl⟩
  have C1 : Hid (∀ w : World, Calls Try.prog 8 #[.float .f64 a, .float .f64 b] w fun e w' => e = .returned (.int .i64 x) ∧ w = w') := by rw [← ex]; exact fun w => strict_calls a b ha hb w
  have C2 : Hid (∀ w : World, Calls Try.prog 14 #[.int .u64 (a : Int), .int .u64 (b : Int)] w fun e w' => e = .returned (.int .i64 x) ∧ w = w') := by rw [← ex]; exact fun w => strictR_calls a b ha hb w
  clear ex
  have q0 : (x == x) = true := by simp
  go_enter Try.func4, Try.ntmps4
  go_wp2_with (first | (go_at_call_of 8 (Value.float FloatKind.f64 4607182418800017408); refine (strict_one _).mono ?_; rintro e w' ⟨rfl, rfl⟩) | (go_at_call 9; refine (copysign_calls _).mono ?_; rintro e w' ⟨rfl, rfl⟩) | (go_at_call_of 8 (Value.float FloatKind.f64 9223372036854775808); refine (strict_zeros _).mono ?_; rintro e w' ⟨rfl, rfl⟩))
  refine (floats_calls ao n cap ds _ h hn).mono ?_
  rintro e wa ⟨ao', cap', rfl, F, K1⟩
  go_wp2_with fail
  refine (least_calls ao' n cap' ds _ F hw).mono ?_
  rintro e w' ⟨r, c, rfl, L, rfl⟩
  have HL := hid_of L
  clear L F
  go_wp2_with fail
  refine (leastR_calls ao n cap ds _ (h.kept K1) hw).mono ?_
  rintro e wb ⟨r', c', rfl, L', K2⟩
  obtain ⟨rfl, rfl⟩ := HL.out.unique L'
  clear HL L'
  have q1 : (r == r) = true := by simp
  have q2 : (c == c) = true := by simp
  go_wp2_with (first | (go_at_call 8; refine (C1.out _).mono ?_; rintro e w' ⟨rfl, rfl⟩) | (go_at_call 14; refine (C2.out _).mono ?_; rintro e w' ⟨rfl, rfl⟩))
  go_ret
  exact ⟨rfl, K1.trans K2⟩
end Go.Proofs.Ytikmollocchfnab
