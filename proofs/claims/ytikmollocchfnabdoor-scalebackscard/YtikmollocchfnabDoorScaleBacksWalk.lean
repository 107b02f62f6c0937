/- ScaleBacks: the walk of the law. -/
import Derived.Test.YtikmollocchfnabDoorBackR
namespace Go.Proofs.YtikmollocchfnabDoor
open Go.RowKit

theorem quo_fourth : quoWord 1 4 = 4598175219545276416 := by decide +kernel
theorem code_fourth : quoCode 4 = 0 := by decide

set_option maxRecDepth 100000 in
set_option linter.unusedSimpArgs false in
set_option maxHeartbeats 2000000 in
theorem scaleBacksWalk (n d e : Int) (n1 : -9223372036854775808 ≤ n) (n2 : n ≤ 9223372036854775807) (d1 : -9223372036854775808 ≤ d) (d2 : d ≤ 9223372036854775807) (w : World) (hT : Tab w) :
    Calls Tryd.prog 4 #[.int .i64 n, .int .i64 d, .int .i64 e] w fun v w' => v = .returned (.bool true) ∧ Kept w w' := by
  have hnot : ∀ (x : Bool) (w : World), (Op.unary .not (.bool x)).run Tryd.prog w = .ok (.bool (!x)) w := fun _ _ => rfl
  have C0 : Hid (∀ w : World, Calls Tryd.prog 11 #[.int .i64 1, .int .i64 4] w fun e w' => e = .returned (.tuple #[.float .f64 4598175219545276416, .int .i64 0]) ∧ Kept w w') := fun w => by
    have := quotient_calls 1 4 (by omega) (by omega) (by omega) (by omega) w
    rw [quo_fourth, code_fourth] at this
    exact this
  have C1 := hid_of (fun w => quotient_calls n d n1 n2 d1 d2 w)
  have C2 := hid_of (fun w => quotR_calls n d n1 n2 d1 d2 w)
  have C3 := hid_of (fun w => back_calls n e n1 n2 w)
  have C4 := hid_of (fun w => backR_calls n e n1 n2 w)
  have z0 : (FloatKind.f64.format.order 4598175219545276416 4598175219545276416 != some .eq) = false := by decide +kernel
  generalize quoWord n d = X at C1 C2
  generalize quoCode d = c at C1 C2
  generalize backWord n e = Y at C3 C4
  have b1 := bits_run X
  have b2 := bits_run Y
  have q1 : ((X : Int) == (X : Int)) = true := by simp
  have q2 : ((Y : Int) == (Y : Int)) = true := by simp
  have q3 : (c == c) = true := by simp
  go_enter Tryd.func4, Tryd.ntmps4
  go_wp2_with fail
  refine (C0.out _).mono ?_
  rintro v wa ⟨rfl, K1⟩
  go_wp2_with fail
  refine (awake_calls _ (hT.kept K1)).mono ?_
  rintro v wb ⟨rfl, K2⟩
  go_wp2_with fail
  refine (C1.out _).mono ?_
  rintro v wd ⟨rfl, K3⟩
  go_wp2_with fail
  refine (C2.out _).mono ?_
  rintro v w' ⟨rfl, rfl⟩
  go_wp2_with fail
  refine (C3.out _).mono ?_
  rintro v we ⟨rfl, K4⟩
  go_wp2_with fail
  refine (C4.out _).mono ?_
  rintro v w' ⟨rfl, rfl⟩
  go_wp2
  go_ret
  exact ⟨rfl, ((K1.trans K2).trans K3).trans K4⟩
end Go.Proofs.YtikmollocchfnabDoor
