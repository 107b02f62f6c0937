/- The order of labels, in the document. -/
import Derived.Test.YtnjnmgpjohfjiabDoorStrict
namespace Go.Proofs.YtnjnmgpjohfjiabDoor
open Go.RowKit

/-- A number, an infinity, no number. -/
def fcls (x : Nat) : Int := if Fl.nan x then 2 else if x % 9223372036854775808 = 9218868437227405312 then 1 else 0

set_option maxHeartbeats 1000000 in
theorem class_calls (x : Nat) (hx : x < 18446744073709551616) (w : World) : Calls Tryd.prog 21 #[.int .u64 (x : Int)] w fun e w' => e = .returned (.int .i64 (fcls x)) ∧ w = w' := by
  by_cases h1 : x / 4503599627370496 % 2048 = 2047
  · have q1 : ((x : Int) / 4503599627370496 % 2048 != 2047) = false := by simp; omega
    by_cases h2 : x % 4503599627370496 = 0
    · have q2 : ((x : Int) % 4503599627370496 == 0) = true := by simp; omega
      have e : fcls x = 1 := by unfold fcls; rw [if_neg (show ¬ Fl.nan x by unfold Fl.nan; omega), if_pos (show x % 9223372036854775808 = 9218868437227405312 by omega)]
      rw [e]
      clear e h1 h2
      go_enter Tryd.func21, Tryd.ntmps21
      go_wp2
      go_ret
      exact ⟨rfl, rfl⟩
    · have q2 : ((x : Int) % 4503599627370496 == 0) = false := by simp; omega
      have e : fcls x = 2 := by unfold fcls; rw [if_pos (show Fl.nan x by unfold Fl.nan; omega)]
      rw [e]
      clear e h1 h2
      go_enter Tryd.func21, Tryd.ntmps21
      go_wp2
      go_ret
      exact ⟨rfl, rfl⟩
  · have q1 : ((x : Int) / 4503599627370496 % 2048 != 2047) = true := by simp; omega
    have e : fcls x = 0 := by unfold fcls; rw [if_neg (show ¬ Fl.nan x by unfold Fl.nan; omega), if_neg (show ¬ x % 9223372036854775808 = 9218868437227405312 by omega)]
    rw [e]
    clear e h1
    go_enter Tryd.func21, Tryd.ntmps21
    go_wp2
    go_ret
    exact ⟨rfl, rfl⟩

end Go.Proofs.YtnjnmgpjohfjiabDoor
