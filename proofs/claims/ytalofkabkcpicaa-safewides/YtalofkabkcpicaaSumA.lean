/- A checked step, and what is caught at the face. -/
import Derived.Test.YtalofkabkcpicaaAddSub
import Derived.Defers
import Derived.Recover
import Derived.Laws.Pointers
import Derived.Deep.RegionHeld3
namespace Go.Proofs.Ytalofkabkcpicaa
open Go.RowKit

set_option maxHeartbeats 400000 in
theorem checkedW_ok (hi lo : Int) (w : World) :
    Calls Try.prog 43 #[.agg #[.int .i64 hi, .int .u64 lo], .int .i64 0] w fun e w' => e = .returned (.agg #[.int .i64 hi, .int .u64 lo]) ∧ Kept w w' := by
  go_enter Try.func43, Try.ntmps43
  go_wp2
  go_returns
  exact ⟨rfl, ((Kept.refl _).alloc _).alloc _⟩

set_option maxHeartbeats 400000 in
theorem checkedI_ok (n : Int) (w : World) :
    Calls Try.prog 44 #[.int .i64 n, .int .i64 0] w fun e w' => e = .returned (.int .i64 n) ∧ w = w' := by
  go_enter Try.func44, Try.ntmps44
  go_wp2
  go_ret
  exact ⟨rfl, rfl⟩

set_option maxHeartbeats 400000 in
theorem checkedI_no (n c : Int) (w : World) (hc : (c != 0) = true) :
    Calls Try.prog 44 #[.int .i64 n, .int .i64 c] w fun e w' => e = .panicked [{ v := .iface 77 (.agg #[.int .i64 c]), recovered := false }] ∧ w = w' := by
  go_enter Try.func44, Try.ntmps44
  go_wp2
  exact ⟨rfl, rfl, rfl⟩

set_option maxHeartbeats 400000 in
theorem codeOf_calls (c : Int) (w : World) :
    Calls Try.prog 42 #[.iface 77 (.agg #[.int .i64 c])] w fun e w' => e = .returned (.int .i64 c) ∧ Kept w w' := by
  have hnot : ∀ (x : Bool) (w : World), (Op.unary .not (.bool x)).run Try.prog w = .ok (.bool (!x)) w := fun _ _ => rfl
  have ht : ∀ w : World, (Instr.typeAssert (.iface 77 (.agg #[.int .i64 c])) 20 77 true).run Try.prog w = .ok (.tuple #[.agg #[.int .i64 c], .bool true]) w := fun _ => by kernel_rfl
  go_enter Try.func42, Try.ntmps42
  go_wp2
  go_ret
  exact ⟨rfl, (Kept.refl _).alloc _⟩

set_option maxRecDepth 100000 in
set_option maxHeartbeats 400000 in
theorem catch_panicking (bn be : Nat) (c n0 e0 : Int) (older : List PanicEntry) (w : World) (h0 : w.cell? ⟨bn, 0, none⟩ = some (.int .i64 n0)) (h1 : w.cell? ⟨be, 0, none⟩ = some (.int .i64 e0)) (f0 : w.frozen? ⟨bn, 0, none⟩ = false) (f1 : w.frozen? ⟨be, 0, none⟩ = false) (hne : bn ≠ be) :
    CallsD Try.prog 41 #[.pointer (some ⟨bn, 0, none⟩), .pointer (some ⟨be, 0, none⟩)] (.panicking ({ v := .iface 77 (.agg #[.int .i64 c]), recovered := false } :: older)) w fun e u' w' =>
      e = .returned (.tuple #[]) ∧ u' = .panicking ({ v := .iface 77 (.agg #[.int .i64 c]), recovered := true } :: older) ∧ ∃ wx, Kept w wx ∧ w' = (wx.setCell ⟨bn, 0, none⟩ (.int .i64 0)).setCell ⟨be, 0, none⟩ (.int .i64 c) := by
  refine callsD_of_wpS Try.func41 rfl fun c₀ cs hu => ?_
  apply wpS_seq
  apply wpS_region
  simp [wpOpsS, go_sem, recoverD, hu, Try.ntmps41, Exit.thenS]
  have et : ∀ x : Value, (#[Value.pointer (some ⟨bn, 0, none⟩), Value.pointer (some ⟨be, 0, none⟩)] ++ ((Array.replicate 6 undef).setIfInBounds 1 x).setIfInBounds 0 x) = #[Value.pointer (some ⟨bn, 0, none⟩), Value.pointer (some ⟨be, 0, none⟩), x, x, undef, undef, undef, undef] := fun _ => rfl
  rw [et]
  refine wpS_of_wp ?_
  go_wp2_with fail
  refine (codeOf_calls c _).mono ?_
  rintro e wx ⟨rfl, K⟩
  have c0 := K.cell h0
  have c1 := K.cell h1
  have g0 : wx.frozen? ⟨bn, 0, none⟩ = false := (Below.frozen (p := ⟨bn, 0, none⟩) K (lt_of_cell h0)).trans f0
  have g1 : wx.frozen? ⟨be, 0, none⟩ = false := (Below.frozen (p := ⟨be, 0, none⟩) K (lt_of_cell h1)).trans f1
  go_wp2
  simp only [bodyPostS]
  exact ⟨trivial, _, rfl, .tuple #[], by simp [results, Try.results41], rfl, rfl, wx, K, rfl⟩

theorem catch_idle (bn be : Nat) (w : World) :
    CallsD Try.prog 41 #[.pointer (some ⟨bn, 0, none⟩), .pointer (some ⟨be, 0, none⟩)] .returning w fun e u' w' => e = .returned (.tuple #[]) ∧ u' = .returning ∧ w' = w := by
  refine callsD_of_wpS Try.func41 rfl fun c₀ cs hu => ?_
  apply wpS_seq
  apply wpS_region
  simp [wpOpsS, go_sem, recoverD, hu, Try.ntmps41, Exit.thenS]
  have et : ∀ x : Value, (#[Value.pointer (some ⟨bn, 0, none⟩), Value.pointer (some ⟨be, 0, none⟩)] ++ ((Array.replicate 6 undef).setIfInBounds 1 x).setIfInBounds 0 x) = #[Value.pointer (some ⟨bn, 0, none⟩), Value.pointer (some ⟨be, 0, none⟩), x, x, undef, undef, undef, undef] := fun _ => rfl
  rw [et]
  refine wpS_of_wp ?_
  go_wp2
  cases c₀
  simp_all [bodyPostS, results, Try.results41]
end Go.Proofs.Ytalofkabkcpicaa
