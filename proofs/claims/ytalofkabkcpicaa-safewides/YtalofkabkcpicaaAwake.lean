/- The three known numbers that every law asks for first. -/
import Derived.Test.YtalofkabkcpicaaSumB
namespace Go.Proofs.Ytalofkabkcpicaa
open Go.RowKit

theorem three_row (w : World) : IRow (w.alloc (Obj.cells #[Value.int .i64 4611686018427387904, Value.int .i64 4611686018427387904, Value.int .i64 (-4611686018427387904)] 2)) (some ⟨w.heap.size, 0, none⟩) 3 3 [4611686018427387904, 4611686018427387904, -4611686018427387904] := by
  refine ⟨rfl, by omega, fun k => ?_, fun _ => ⟨_, _, rfl, fun i hi => ?_⟩⟩
  · match k with
    | 0 => simp
    | 1 => simp
    | 2 => simp
    | k + 3 => simp
  · match i, hi with
    | 0, _ => simp [go_sem]
    | 1, _ => simp [go_sem]
    | 2, _ => simp [go_sem]

set_option maxRecDepth 100000 in
set_option maxHeartbeats 400000 in
theorem awake_calls (w : World) : Calls Try.prog 9 #[] w fun e w' => e = .returned (.bool true) ∧ Kept w w' := by
  have n1 : narrow (2147483648 * 2147483648) = (4611686018427387904, 0) := by decide
  have n2 : narrow (sumTo [4611686018427387904, 4611686018427387904, -4611686018427387904] 3) = (4611686018427387904, 0) := by decide
  go_enter Try.func9, Try.ntmps9
  go_wp2_with fail
  refine (mul_calls 2147483648 2147483648 _ (by omega) (by omega) (by omega) (by omega)).mono ?_
  rintro e wa ⟨rfl, K1⟩
  rw [n1]
  go_wp2_with fail
  refine (sum_calls _ 3 3 _ _ (three_row wa)).mono ?_
  rintro e wb ⟨rfl, K2⟩
  rw [n2]
  go_wp2
  go_ret
  exact ⟨rfl, (K1.alloc _).trans K2⟩
end Go.Proofs.Ytalofkabkcpicaa
