/- Back, and what wakes the laws of layer 2, in the program. -/
import Derived.Test.YtnjnmgpjohfjiabDoorAdmitP
import Derived.Test.YtnjnmgpjohfjiabDoorFlX
namespace Go.Proofs.YtnjnmgpjohfjiabDoor
open Go.RowKit

/-- The word of n times 2^e. -/
def backWord (n e : Int) : Nat := if n = 0 then 0 else Ieee.double.word (decide (n < 0)) (Fl.near n.natAbs false (max (-2048) (min e 2048)))

set_option maxHeartbeats 2000000 in
theorem back_calls (n e : Int) (n1 : -9223372036854775808 ≤ n) (n2 : n ≤ 9223372036854775807) (w : World) :
    Calls Tryd.prog 14 #[.int .i64 n, .int .i64 e] w fun v w' => v = .returned (.float .f64 (backWord n e)) ∧ Kept w w' := by
  by_cases hn : n = 0
  · have q : (n == 0) = true := by simp [hn]
    have e1 : backWord n e = 0 := by unfold backWord; rw [if_pos hn]
    rw [e1]
    clear hn e1
    go_enter Tryd.func14, Tryd.ntmps14
    go_wp2
    go_ret
    exact ⟨rfl, Kept.refl _⟩
  have q : (n == 0) = false := by simp [hn]
  have e1 : backWord n e = Ieee.double.word (decide (n < 0)) (Fl.near n.natAbs false (max (-2048) (min e 2048))) := by unfold backWord; rw [if_neg hn]
  rw [e1]
  clear e1
  have M := hid_of (fun w => magnitude_calls n n1 n2 w)
  have N := hid_of (fun (e : Int) (a : -4000 ≤ e) (b : e ≤ 2048) (w : World) => nearest_calls (decide (n < 0)) n.natAbs false e (by omega) (by omega) (by simp) a b w)
  generalize n.natAbs = A at M N
  by_cases c1 : e < 2048
  · by_cases c2 : -2048 < e
    · have hm : max (-2048) (min e 2048) = e := by omega
      rw [hm]
      have NE := hid_of (N.out e (by omega) (by omega))
      clear N hm hn
      go_enter Tryd.func14, Tryd.ntmps14
      go_wp2_with (first | (go_at_call 23; refine (M.out _).mono ?_; rintro v w' ⟨rfl, rfl⟩) | (go_at_call 26; refine (NE.out _).mono ?_; rintro v w' ⟨rfl, k, rfl⟩))
      go_ret
      exact ⟨rfl, (Kept.refl _).drewN _⟩
    · have hm : max (-2048) (min e 2048) = -2048 := by omega
      rw [hm]
      have NE := hid_of (N.out (-2048) (by omega) (by omega))
      clear N hm hn
      go_enter Tryd.func14, Tryd.ntmps14
      go_wp2_with (first | (go_at_call 23; refine (M.out _).mono ?_; rintro v w' ⟨rfl, rfl⟩) | (go_at_call 26; refine (NE.out _).mono ?_; rintro v w' ⟨rfl, k, rfl⟩))
      go_ret
      exact ⟨rfl, (Kept.refl _).drewN _⟩
  by_cases c3 : 2048 < e
  · have hm : max (-2048) (min e 2048) = 2048 := by omega
    rw [hm]
    have NE := hid_of (N.out 2048 (by omega) (by omega))
    clear N hm hn
    go_enter Tryd.func14, Tryd.ntmps14
    go_wp2_with (first | (go_at_call 23; refine (M.out _).mono ?_; rintro v w' ⟨rfl, rfl⟩) | (go_at_call 26; refine (NE.out _).mono ?_; rintro v w' ⟨rfl, k, rfl⟩))
    go_ret
    exact ⟨rfl, (Kept.refl _).drewN _⟩
  · obtain rfl : e = 2048 := by omega
    have hm : max (-2048 : Int) (min 2048 2048) = 2048 := by omega
    rw [hm]
    have NE := hid_of (N.out 2048 (by omega) (by omega))
    clear N hm hn
    go_enter Tryd.func14, Tryd.ntmps14
    go_wp2_with (first | (go_at_call 23; refine (M.out _).mono ?_; rintro v w' ⟨rfl, rfl⟩) | (go_at_call 26; refine (NE.out _).mono ?_; rintro v w' ⟨rfl, k, rfl⟩))
    go_ret
    exact ⟨rfl, (Kept.refl _).drewN _⟩

theorem admit_halves : admitOf [4602678819172646912, 4613937818241073152] 100 = ([1, 6], -1, 0, 0) := by decide +kernel
theorem back_three : backWord 6 (-1) = 4613937818241073152 := by decide +kernel

theorem two_row (w : World) : FRow (w.alloc (Obj.cells #[Value.float .f64 4602678819172646912, Value.float .f64 4613937818241073152] 35)) (some ⟨w.heap.size, 0, none⟩) 2 2 [4602678819172646912, 4613937818241073152] := by
  refine ⟨rfl, Nat.le_refl _, by unfold maxLen; omega, fun _ => ⟨_, _, rfl, fun i hi => ?_⟩⟩
  match i, hi with
  | 0, _ => simp [go_sem]
  | 1, _ => simp [go_sem]

theorem ZRow.two {w : World} {ao : Option Addr} {n cap : Nat} {x y : Int} (h : ZRow w ao n cap [x, y]) : n = 2 ∧ 2 ≤ cap ∧ ∃ b off, ao = some ⟨b, off, none⟩ ∧ w.cell? ⟨b, off, none⟩ = some (.int .i64 x) ∧ w.cell? ⟨b, off + 1, none⟩ = some (.int .i64 y) := by
  have h1 : n = 2 := h.len
  subst h1
  obtain ⟨b, off, e, hc⟩ := h.cell (by omega)
  exact ⟨rfl, h.room, b, off, e, hc 0 (by omega), hc 1 (by omega)⟩

set_option maxRecDepth 100000 in
set_option maxHeartbeats 2000000 in
theorem awake_calls (w : World) (hT : Tab w) : Calls Tryd.prog 7 #[] w fun e w' => e = .returned (.bool true) ∧ Kept w w' := by
  have KW : Kept w (w.alloc (Obj.cells #[Value.float .f64 4602678819172646912, Value.float .f64 4613937818241073152] 35)) := (Kept.refl w).alloc _
  have B : Hid (∀ w : World, Calls Tryd.prog 14 #[.int .i64 6, .int .i64 (-1)] w fun v w' => v = .returned (.float .f64 4613937818241073152) ∧ Kept w w') := fun w => by
    have := back_calls 6 (-1) (by omega) (by omega) w
    rw [back_three] at this
    exact this
  have z0 : (FloatKind.f64.format.order 4613937818241073152 4613937818241073152 == some .eq) = true := by decide +kernel
  go_enter Tryd.func7, Tryd.ntmps7
  go_wp2_with fail
  refine (admit_calls _ 2 2 [4602678819172646912, 4613937818241073152] 100 _ (two_row w) (fun i => by match i with | 0 => simp | 1 => simp | _ + 2 => simp) (hT.kept KW) (by omega) [1, 6] (-1) 0 0 admit_halves).mono ?_
  rintro e wa ⟨⟨ao', cap', rfl, R⟩, K1⟩
  obtain ⟨_, hcap, b, off, rfl, c0, c1⟩ := R.two
  have KA := KW.trans K1
  have hmost := R.most
  unfold maxLen at hmost
  clear R
  have d0 : ∀ o, (wa.alloc o).cell? ⟨b, off, none⟩ = some (.int .i64 1) := fun o => ((Kept.refl wa).alloc o).cell c0
  have d1 : ∀ o, (wa.alloc o).cell? ⟨b, off + 1, none⟩ = some (.int .i64 6) := fun o => ((Kept.refl wa).alloc o).cell c1
  clear c0 c1
  simp only [List.length_cons, List.length_nil, Nat.zero_add, Nat.reduceAdd]
  go_wp2_with (go_at_call 14; refine (B.out _).mono ?_; rintro e wb ⟨rfl, K2⟩)
  go_ret
  exact ⟨rfl, (KA.alloc _).trans K2⟩
end Go.Proofs.YtnjnmgpjohfjiabDoor
