/- The order of labels, in the program. -/
import Derived.Test.YtnjnmgpjohfjiabDoorBase
import Derived.Test.YtnjnmgpjohfjiabDoorFl
namespace Go.Proofs.YtnjnmgpjohfjiabDoor
open Go.RowKit

theorem bits_run (x : Nat) (w : World) : (callFunc 13 #[.float .f64 x]).run Tryd.prog w = .ok (.value (.int .u64 (x : Int))) w := by
  rw [run_callFunc_extern Tryd.func13 (by kernel_rfl) (by kernel_rfl) (by kernel_rfl) (e := Extern.MathFloatBits.float64bits) (by kernel_rfl)]
  rfl
theorem frombits_run (x : Nat) (w : World) : (callFunc 20 #[.int .u64 (x : Int)]).run Tryd.prog w = .ok (.value (.float .f64 x)) w := by
  rw [run_callFunc_extern Tryd.func20 (by kernel_rfl) (by kernel_rfl) (by kernel_rfl) (e := Extern.MathFloatBits.float64frombits) (by kernel_rfl)]
  rfl

/-- Float comparisons in the walk's words. -/
theorem fneq_self (x : Nat) : (FloatKind.f64.format.order x x != some .eq) = decide (Fl.nan x) := by
  have := Fl.nan_iff x
  show (!(Ieee.double.order x x == some .eq)) = _
  rw [this]
  by_cases h : Fl.nan x <;> simp [h]

theorem isNaN_calls (x : Nat) (w : World) : Calls Tryd.prog 31 #[.float .f64 x] w fun e w' => e = .returned (.bool (decide (Fl.nan x))) ∧ w = w' := by
  have h := fneq_self x
  go_enter Tryd.func31, Tryd.ntmps31
  go_wp2
  go_ret
  exact ⟨rfl, rfl⟩

/-- The sign's bit. -/
def fneg (x : Nat) : Bool := decide (9223372036854775808 ≤ x)


/-- The rank of a label. -/
def frank (x : Nat) : Int := if Fl.nan x then 4 else if Fl.sr x < 0 then 0 else if 0 < Fl.sr x then 3 else if fneg x = true then 1 else 2

theorem not_nan_zero : ¬ Fl.nan 0 := by decide
theorem sr_zero : Fl.sr 0 = 0 := by decide

theorem flt (x y : Nat) (hx : ¬ Fl.nan x) (hy : ¬ Fl.nan y) : (FloatKind.f64.format.order x y == some .lt) = decide (Fl.sr x < Fl.sr y) := Fl.lt_iff x y hx hy
theorem fgt (x y : Nat) (hx : ¬ Fl.nan x) (hy : ¬ Fl.nan y) : (FloatKind.f64.format.order x y == some .gt) = decide (Fl.sr y < Fl.sr x) := Fl.gt_iff x y hx hy


/-- A whole number for each label: labels stand as these do. -/
def fkey (x : Nat) : Int := if Fl.nan x then 9223372036854775808 else if fneg x = true then -((x : Int) - 9223372036854775808) - 1 else (x : Int)

theorem key_facts (x : Nat) (hx : x < 18446744073709551616) :
    (Fl.nan x ∧ fkey x = 9223372036854775808 ∧ frank x = 4) ∨
    (¬ Fl.nan x ∧ fneg x = true ∧ fkey x = Fl.sr x - 1 ∧ Fl.sr x ≤ 0 ∧ -9218868437227405312 ≤ Fl.sr x ∧ ((Fl.sr x < 0 ∧ frank x = 0) ∨ (Fl.sr x = 0 ∧ frank x = 1))) ∨
    (¬ Fl.nan x ∧ fneg x = false ∧ fkey x = Fl.sr x ∧ 0 ≤ Fl.sr x ∧ Fl.sr x ≤ 9218868437227405312 ∧ ((0 < Fl.sr x ∧ frank x = 3) ∨ (Fl.sr x = 0 ∧ frank x = 2))) := by
  by_cases hn : Fl.nan x
  · left; exact ⟨hn, by unfold fkey; rw [if_pos hn], by unfold frank; rw [if_pos hn]⟩
  right
  have hb : x % 9223372036854775808 ≤ 9218868437227405312 := by unfold Fl.nan at hn; omega
  by_cases h : 9223372036854775808 ≤ x
  · left
    have hf : fneg x = true := decide_eq_true h
    have hs : Fl.sr x = -((x % 9223372036854775808 : Nat) : Int) := by unfold Fl.sr; rw [if_pos (by omega)]
    refine ⟨hn, hf, by unfold fkey; rw [if_neg hn, if_pos hf]; omega, by omega, by omega, ?_⟩
    by_cases hz : Fl.sr x < 0
    · exact .inl ⟨hz, by unfold frank; rw [if_neg hn, if_pos hz]⟩
    · exact .inr ⟨by omega, by unfold frank; rw [if_neg hn, if_neg hz, if_neg (by omega), if_pos hf]⟩
  · right
    have hf : fneg x = false := decide_eq_false h
    have hs : Fl.sr x = ((x % 9223372036854775808 : Nat) : Int) := by unfold Fl.sr; rw [if_neg (by omega)]
    refine ⟨hn, hf, by unfold fkey; rw [if_neg hn, if_neg (by rw [hf]; decide)]; omega, by omega, by omega, ?_⟩
    by_cases hz : 0 < Fl.sr x
    · exact .inl ⟨hz, by unfold frank; rw [if_neg hn, if_neg (by omega), if_pos hz]⟩
    · exact .inr ⟨by omega, by unfold frank; rw [if_neg hn, if_neg (by omega), if_neg hz, if_neg (by rw [hf]; decide)]⟩

/-- The order of labels by their ranks and values. -/
theorem strict_math (x y : Nat) (hx : x < 18446744073709551616) (hy : y < 18446744073709551616) :
    (frank x < frank y → Dg.cmp (fkey x) (fkey y) = -1) ∧ (frank y < frank x → Dg.cmp (fkey x) (fkey y) = 1) ∧
    (frank x = frank y → ∃ l g : Bool, (FloatKind.f64.format.order x y == some .lt) = l ∧ (FloatKind.f64.format.order x y == some .gt) = g ∧
      Dg.cmp (fkey x) (fkey y) = if l then -1 else if g then 1 else 0) := by
  have hX := key_facts x hx
  have hY := key_facts y hy
  refine ⟨fun h => Dg.cmp_lt (by omega), fun h => Dg.cmp_gt (by omega), fun h => ?_⟩
  by_cases nx : Fl.nan x
  · have hX' := hX.resolve_right (by rintro (⟨h, _⟩ | ⟨h, _⟩) <;> exact h nx)
    refine ⟨false, false, ?_, ?_, ?_⟩
    · show (Ieee.double.order x y == _) = _; rw [Fl.order_nan1 x y nx]; rfl
    · show (Ieee.double.order x y == _) = _; rw [Fl.order_nan1 x y nx]; rfl
    · exact Dg.cmp_eq (by omega)
  by_cases ny : Fl.nan y
  · have hY' := hY.resolve_right (by rintro (⟨h, _⟩ | ⟨h, _⟩) <;> exact h ny)
    refine ⟨false, false, ?_, ?_, ?_⟩
    · show (Ieee.double.order x y == _) = _; rw [Fl.order_nan2 x y ny]; rfl
    · show (Ieee.double.order x y == _) = _; rw [Fl.order_nan2 x y ny]; rfl
    · exact Dg.cmp_eq (by omega)
  have hX' := hX.resolve_left (fun h => nx h.1)
  have hY' := hY.resolve_left (fun h => ny h.1)
  refine ⟨decide (Fl.sr x < Fl.sr y), decide (Fl.sr y < Fl.sr x), flt x y nx ny, fgt x y nx ny, ?_⟩
  by_cases c : Fl.sr x < Fl.sr y
  · rw [decide_eq_true c, Dg.cmp_lt (by omega)]; rfl
  · by_cases c2 : Fl.sr y < Fl.sr x
    · rw [decide_eq_false c, decide_eq_true c2, Dg.cmp_gt (by omega)]; rfl
    · rw [decide_eq_false c, decide_eq_false c2, Dg.cmp_eq (by omega)]; rfl

end Go.Proofs.YtnjnmgpjohfjiabDoor
