/- What Poly answers. -/
import Derived.Test.YtalofkabkcpicaaSumB
import Derived.Test.YtalofkabkcpicaaPolyMath
namespace Go.Proofs.Ytalofkabkcpicaa
open Go.RowKit

set_option maxRecDepth 100000 in
set_option maxHeartbeats 400000 in
theorem catchP_panicking (bn be : Nat) (c n0 e0 : Int) (older : List PanicEntry) (w : World) (h0 : w.cell? ⟨bn, 0, none⟩ = some (.int .i64 n0)) (h1 : w.cell? ⟨be, 0, none⟩ = some (.int .i64 e0)) (f0 : w.frozen? ⟨bn, 0, none⟩ = false) (f1 : w.frozen? ⟨be, 0, none⟩ = false) (hne : bn ≠ be) :
    CallsD Try.prog 45 #[.pointer (some ⟨bn, 0, none⟩), .pointer (some ⟨be, 0, none⟩)] (.panicking ({ v := .iface 77 (.agg #[.int .i64 c]), recovered := false } :: older)) w fun e u' w' =>
      e = .returned (.tuple #[]) ∧ u' = .panicking ({ v := .iface 77 (.agg #[.int .i64 c]), recovered := true } :: older) ∧ ∃ wx, Kept w wx ∧ w' = (wx.setCell ⟨bn, 0, none⟩ (.int .i64 0)).setCell ⟨be, 0, none⟩ (.int .i64 c) := by
  refine callsD_of_wpS Try.func45 rfl fun c₀ cs hu => ?_
  apply wpS_seq
  apply wpS_region
  simp [wpOpsS, go_sem, recoverD, hu, Try.ntmps45, Exit.thenS]
  have et : ∀ x : Value, (#[Value.pointer (some ⟨bn, 0, none⟩), Value.pointer (some ⟨be, 0, none⟩)] ++ ((Array.replicate 6 undef).setIfInBounds 1 x).setIfInBounds 0 x) = #[Value.pointer (some ⟨bn, 0, none⟩), Value.pointer (some ⟨be, 0, none⟩), x, x, undef, undef, undef, undef] := fun _ => rfl
  rw [et]
  refine wpS_of_wp ?_
  go_wp2_with fail
  refine (codeOf_calls c _).mono ?_
  rintro e wx ⟨rfl, K⟩
  have c0 := K.cell h0
  have c1 := K.cell h1
  have g0 : wx.frozen? ⟨bn, 0, none⟩ = false := (Below.frozen (p := ⟨bn, 0, none⟩) K (lt_of_cell h0)).trans f0
  have g1 : wx.frozen? ⟨be, 0, none⟩ = false := (Below.frozen (p := ⟨be, 0, none⟩) K (lt_of_cell h1)).trans f1
  go_wp2
  simp only [bodyPostS]
  exact ⟨trivial, _, rfl, .tuple #[], by simp [results, Try.results45], rfl, rfl, wx, K, rfl⟩

theorem catchP_idle (bn be : Nat) (w : World) :
    CallsD Try.prog 45 #[.pointer (some ⟨bn, 0, none⟩), .pointer (some ⟨be, 0, none⟩)] .returning w fun e u' w' => e = .returned (.tuple #[]) ∧ u' = .returning ∧ w' = w := by
  refine callsD_of_wpS Try.func45 rfl fun c₀ cs hu => ?_
  apply wpS_seq
  apply wpS_region
  simp [wpOpsS, go_sem, recoverD, hu, Try.ntmps45, Exit.thenS]
  have et : ∀ x : Value, (#[Value.pointer (some ⟨bn, 0, none⟩), Value.pointer (some ⟨be, 0, none⟩)] ++ ((Array.replicate 6 undef).setIfInBounds 1 x).setIfInBounds 0 x) = #[Value.pointer (some ⟨bn, 0, none⟩), Value.pointer (some ⟨be, 0, none⟩), x, x, undef, undef, undef, undef] := fun _ => rfl
  rw [et]
  refine wpS_of_wp ?_
  go_wp2
  cases c₀
  simp_all [bodyPostS, results, Try.results45]

set_option maxRecDepth 100000 in
set_option maxHeartbeats 2000000 in
theorem poly_calls (ao : Option Addr) (n cap : Nat) (zs : List Int) (x : Int) (w : World) (h : IRow w ao n cap zs) (x1 : -9223372036854775808 ≤ x) (x2 : x ≤ 9223372036854775807) :
    Calls Try.prog 29 #[.slice ao n cap, .int .i64 x] w fun e w' => e = .returned (.tuple #[.int .i64 (polyAt zs x n).1, .int .i64 (polyAt zs x n).2]) ∧ Kept w w' := by
  have hmf : ∀ (fn : Fn) (first cap : Array Value) (w : World), (Instr.makeFunc fn first cap).run Try.prog w = .ok (.func fn first cap) w := fun _ _ _ _ => rfl
  have hl1 : n ≤ zs.length := Nat.le_of_eq h.len
  have hm := h.most
  go_enter_defers Try.func29, Try.ntmps29
  go_wp2_with fail
  go_loopw [6, 12] (fun v i wr => ∃ (k : Nat) (p : Int), k ≤ n ∧ i = .int .i64 k ∧ v = .int .i64 p ∧ polyAt zs x k = (p, 0) ∧ -9223372036854775808 ≤ p ∧ p ≤ 9223372036854775807 ∧ Kept (sumW w) wr) (fun _ i _ => n - (intOf i).toNat)
  case atStart => exact ⟨0, 0, by omega, rfl, rfl, rfl, by omega, by omega, Kept.refl _⟩
  case round =>
    obtain ⟨k, p, hk, rfl, rfl, hp, p1, p2, R⟩ := hrel
    have HP := hid_of hp
    clear hp
    have KR := (sumW_kept w).trans R
    have n0 : wr.cell? ⟨w.heap.size, 0, none⟩ = some (.int .i64 0) := R.cell (by simp [sumW, go_sem])
    have e0 : wr.cell? ⟨w.heap.size + 1, 0, none⟩ = some (.int .i64 0) := R.cell (by simp [sumW, go_sem])
    have nf : wr.frozen? ⟨w.heap.size, 0, none⟩ = false := (Below.frozen (p := ⟨w.heap.size, 0, none⟩) R (by rw [sumW_size]; show w.heap.size < _; omega)).trans (by simp [sumW, go_sem])
    have ef : wr.frozen? ⟨w.heap.size + 1, 0, none⟩ = false := (Below.frozen (p := ⟨w.heap.size + 1, 0, none⟩) R (by rw [sumW_size]; show w.heap.size + 1 < _; omega)).trans (by simp [sumW, go_sem])
    by_cases hgo : (k : Int) < (n : Int)
    · obtain ⟨b, off, rfl, hc⟩ := h.cell (by omega)
      have hcx := KR.cell (hc k (by omega))
      obtain ⟨c1, c2⟩ := h.fits k
      clear hc
      obtain ⟨c, ec⟩ : ∃ c, c = zs.getD k 0 := ⟨_, rfl⟩
      rw [← ec] at hcx c1 c2
      have EC := hid_of ec
      clear ec
      go_wp2_with fail
      refine (mul_calls p x _ p1 p2 x1 x2).mono ?_
      rintro e wb ⟨rfl, K2⟩
      obtain ⟨n1, e1, nf1, ef1⟩ := nbox1 K2 n0 e0 nf ef
      by_cases hr : -9223372036854775808 ≤ p * x ∧ p * x ≤ 9223372036854775807
      · have hn := narrow_in hr.1 hr.2
        rw [hn]
        have HN := hid_of hn
        clear hn
        obtain ⟨m, em⟩ : ∃ m, m = p * x := ⟨_, rfl⟩
        rw [← em] at hr ⊢
        have EM := hid_of em
        clear em
        obtain ⟨r1, r2⟩ := hr
        go_wp2_with fail
        refine (checkedI_ok m _).mono ?_
        rintro e wc ⟨rfl, rfl⟩
        go_wp2_with fail
        refine (add_calls m c _ r1 r2 c1 c2).mono ?_
        rintro e wc ⟨rfl, rfl⟩
        by_cases hr2 : -9223372036854775808 ≤ m + c ∧ m + c ≤ 9223372036854775807
        · have hn2 := narrow_in hr2.1 hr2.2
          rw [hn2]
          have HN2 := hid_of hn2
          clear hn2
          obtain ⟨t1, t2⟩ := hr2
          obtain ⟨q, eq⟩ : ∃ q, q = m + c := ⟨_, rfl⟩
          rw [← eq] at t1 t2 ⊢
          have EQ := hid_of eq
          clear eq
          go_wp2_with fail
          refine (checkedI_ok q _).mono ?_
          rintro e wc ⟨rfl, rfl⟩
          go_wp2
          go_roundw
          case rel =>
            refine ⟨k + 1, q, by omega, by go_num, rfl, ?_, t1, t2, R.trans K2⟩
            have hs := HN.out
            rw [← EM.out] at hs
            rw [polyAt_ok zs x k p m HP.out (by rw [← EM.out]; exact narrow_in r1 r2), ← EC.out, HN2.out, EQ.out]
          case measure => simp [intOf]; omega
        · have hn2 := narrow_out (z := m + c) (by omega)
          rw [hn2]
          have HN2 := hid_of hn2
          clear hn2
          have HF := hid_of (polyAt_late zs x k p m n HP.out (by rw [← EM.out]; exact narrow_in r1 r2) (by rw [← EC.out]; exact HN2.out) (by omega))
          go_wp2_with fail
          refine (checkedI_no 0 10 _ (by decide)).mono ?_
          rintro e wc ⟨rfl, rfl⟩
          go_wp2
          refine leaves_cons (f := 45) (args := #[.pointer (some ⟨w.heap.size, 0, none⟩), .pointer (some ⟨w.heap.size + 1, 0, none⟩)]) (by simp) (by simp [go_sem]) ?_
          refine (catchP_panicking w.heap.size (w.heap.size + 1) 10 0 0 [] _ n1 e1 nf1 ef1 (by omega)).mono ?_
          rintro e u' w'' ⟨rfl, rfl, wx, K5, rfl⟩
          obtain ⟨q1, q2⟩ := two_cells (K5.cell n1) (K5.cell e1) (by omega) (.int .i64 0) (.int .i64 10)
          have KF : Kept w ((wx.setCell ⟨w.heap.size, 0, none⟩ (.int .i64 0)).setCell ⟨w.heap.size + 1, 0, none⟩ (.int .i64 10)) := (((KR.trans K2).trans K5).setCell (Nat.le_refl _) _).setCell (Nat.le_succ _) _
          simp [Leaves, settle, results, Try.results29, go_sem, q1, q2]
          rw [HF.out]
          exact ⟨⟨rfl, rfl⟩, KF⟩
      · have hn := narrow_out (z := p * x) (by omega)
        rw [hn]
        have HN := hid_of hn
        clear hn
        have HF := hid_of (polyAt_early zs x k p n HP.out HN.out (by omega))
        go_wp2_with fail
        refine (checkedI_no 0 10 _ (by decide)).mono ?_
        rintro e wc ⟨rfl, rfl⟩
        go_wp2
        refine leaves_cons (f := 45) (args := #[.pointer (some ⟨w.heap.size, 0, none⟩), .pointer (some ⟨w.heap.size + 1, 0, none⟩)]) (by simp) (by simp [go_sem]) ?_
        refine (catchP_panicking w.heap.size (w.heap.size + 1) 10 0 0 [] _ n1 e1 nf1 ef1 (by omega)).mono ?_
        rintro e u' w'' ⟨rfl, rfl, wx, K5, rfl⟩
        obtain ⟨q1, q2⟩ := two_cells (K5.cell n1) (K5.cell e1) (by omega) (.int .i64 0) (.int .i64 10)
        have KF : Kept w ((wx.setCell ⟨w.heap.size, 0, none⟩ (.int .i64 0)).setCell ⟨w.heap.size + 1, 0, none⟩ (.int .i64 10)) := (((KR.trans K2).trans K5).setCell (Nat.le_refl _) _).setCell (Nat.le_succ _) _
        simp [Leaves, settle, results, Try.results29, go_sem, q1, q2]
        rw [HF.out]
        exact ⟨⟨rfl, rfl⟩, KF⟩
    · obtain rfl : k = n := by omega
      clear hgo
      go_wp2
      refine leaves_cons (f := 45) (args := #[.pointer (some ⟨w.heap.size, 0, none⟩), .pointer (some ⟨w.heap.size + 1, 0, none⟩)]) (by simp) (by simp [go_sem]) ?_
      refine (catchP_idle w.heap.size (w.heap.size + 1) _).mono ?_
      rintro e u' w'' ⟨rfl, rfl, rfl⟩
      obtain ⟨q1, q2⟩ := two_cells n0 e0 (by omega) (.int .i64 p) (.int .i64 0)
      refine ⟨.tuple #[.int .i64 p, .int .i64 0], by simp [results, Try.results29, go_sem, q1, q2], ?_, ?_⟩
      · rw [HP.out]
      · exact (KR.setCell (Nat.le_refl _) _).setCell (Nat.le_succ _) _
end Go.Proofs.Ytalofkabkcpicaa
