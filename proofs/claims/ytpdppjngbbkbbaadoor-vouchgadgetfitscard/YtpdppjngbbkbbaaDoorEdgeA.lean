/- Edges and rows of edges; what is wrong with an edge, in the program and in the document. -/
import Derived.Test.YtpdppjngbbkbbaaDoorBase
namespace Go.Proofs.YtpdppjngbbkbbaaDoor
open Go.RowKit

structure Ed where
  f : Int
  t : Int
  c : Int
  k : Int

/-- An edge as a value. -/
abbrev Ed.val (e : Ed) : Value := .agg #[.int .i64 e.f, .int .i64 e.t, .int .i64 e.c, .int .i64 e.k]

theorem isNode_calls (v n : Int) (w : World) : Calls Tryd.prog 113 #[.int .i64 v, .int .i64 n] w fun e w' => e = .returned (.bool (decide (0 ≤ v) && decide (v < n))) ∧ w = w' := by
  by_cases h : 0 ≤ v
  · go_enter Tryd.func113, Tryd.ntmps113
    go_wp2
    go_ret
    exact ⟨by simp [h], rfl⟩
  · go_enter Tryd.func113, Tryd.ntmps113
    go_wp2
    go_ret
    exact ⟨by simp; omega, rfl⟩

/-- What is wrong with an edge among n nodes. -/
def badOf (n : Int) (e : Ed) : Int := if e.f < 0 ∨ e.t < 0 ∨ n ≤ e.f ∨ n ≤ e.t then 30 else if e.c < 0 ∨ 1048576 < e.c ∨ e.k < -1048576 ∨ 1048576 < e.k then 31 else 0

set_option maxRecDepth 100000 in
set_option maxHeartbeats 1000000 in
set_option linter.unusedSimpArgs false in
theorem wrong_calls (n : Int) (e : Ed) (w : World) : Calls Tryd.prog 109 #[e.val, .int .i64 n] w fun v w' => v = .returned (.int .i64 (badOf n e)) ∧ Kept w w' := by
  obtain ⟨f, t, c, k⟩ := e
  have KW := (Kept.refl w).alloc (Obj.cells #[.int .i64 f, .int .i64 t, .int .i64 c, .int .i64 k] 86)
  have hnot : ∀ (x : Bool) (w : World), (Op.unary .not (.bool x)).run Tryd.prog w = .ok (.bool (!x)) w := fun _ _ => rfl
  go_enter Tryd.func109, Tryd.ntmps109
  go_wp2_with (go_at_call 113; refine (isNode_calls _ _ _).mono ?_; rintro e w' ⟨rfl, rfl⟩)
  all_goals go_ret
  all_goals refine ⟨ret_int ?_, KW⟩
  all_goals unfold badOf
  all_goals simp only [Bool.or_eq_true, Bool.and_eq_true, Bool.not_eq_true', Bool.or_eq_false_iff, Bool.and_eq_false_iff, Bool.not_eq_false', decide_eq_true_eq, decide_eq_false_iff_not] at *
  all_goals split <;> (try split) <;> omega

set_option maxRecDepth 100000 in
set_option maxHeartbeats 1000000 in
set_option linter.unusedSimpArgs false in
theorem bad_calls (n : Int) (e : Ed) (w : World) : Calls Tryd.prog 90 #[.int .i64 n, e.val] w fun v w' => v = .returned (.int .i64 (badOf n e)) ∧ Kept w w' := by
  obtain ⟨f, t, c, k⟩ := e
  have KW := (Kept.refl w).alloc (Obj.cells #[.int .i64 f, .int .i64 t, .int .i64 c, .int .i64 k] 86)
  go_enter Tryd.func90, Tryd.ntmps90
  go_wp2
  all_goals go_ret
  all_goals refine ⟨ret_int ?_, KW⟩
  all_goals unfold badOf
  all_goals simp only [Bool.or_eq_true, Bool.and_eq_true, Bool.not_eq_true', Bool.or_eq_false_iff, Bool.and_eq_false_iff, Bool.not_eq_false', decide_eq_true_eq, decide_eq_false_iff_not] at *
  all_goals split <;> (try split) <;> omega
end Go.Proofs.YtpdppjngbbkbbaaDoor
