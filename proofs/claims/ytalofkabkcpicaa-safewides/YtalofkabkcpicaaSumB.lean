/- What Sum answers. -/
import Derived.Test.YtalofkabkcpicaaSumA
namespace Go.Proofs.Ytalofkabkcpicaa
open Go.RowKit

/-- The sum of the first k. -/
def sumTo (zs : List Int) (k : Nat) : Int := (zs.take k).sum
theorem sumTo_zero (zs : List Int) : sumTo zs 0 = 0 := by simp [sumTo]
theorem sumTo_succ (zs : List Int) (k : Nat) (h : k < zs.length) : sumTo zs (k + 1) = sumTo zs k + zs.getD k 0 := by
  unfold sumTo
  rw [List.take_succ_eq_append_getElem h, List.sum_append]
  simp [List.getD, h]
def Fits (zs : List Int) : Prop := ∀ k, -9223372036854775808 ≤ zs.getD k 0 ∧ zs.getD k 0 ≤ 9223372036854775807
theorem sumTo_bd (zs : List Int) (h : Fits zs) (k : Nat) (hk : k ≤ zs.length) : -9223372036854775808 * (k : Int) ≤ sumTo zs k ∧ sumTo zs k ≤ 9223372036854775808 * (k : Int) := by
  induction k with
  | zero => simp [sumTo_zero]
  | succ k ih =>
    have h1 := ih (by omega)
    have h2 := h k
    rw [sumTo_succ zs k (by omega)]
    omega

/-- A row of numbers of 64 bits. -/
structure IRow (w : World) (ao : Option Addr) (n cap : Nat) (zs : List Int) : Prop where
  len : n = zs.length
  most : n ≤ 9223372036854775807
  fits : Fits zs
  cell : 0 < n → ∃ b off, ao = some ⟨b, off, none⟩ ∧ ∀ i, i < n → w.cell? ⟨b, off + i, none⟩ = some (.int .i64 (zs.getD i 0))
theorem IRow.kept {w w' : World} {ao : Option Addr} {n cap : Nat} {zs : List Int} (h : IRow w ao n cap zs) (k : Kept w w') : IRow w' ao n cap zs :=
  ⟨h.len, h.most, h.fits, fun hn => by
    obtain ⟨b, off, e, hc⟩ := h.cell hn
    exact ⟨b, off, e, fun i hi => k.cell (hc i hi)⟩⟩

/-- The boxes of the results. -/
def sumW (w : World) : World := (w.alloc (Obj.cells #[Value.int .i64 0] 2)).alloc (Obj.cells #[Value.int .i64 0] 27)
theorem sumW_kept (w : World) : Kept w (sumW w) := ((Kept.refl _).alloc _).alloc _
theorem sumW_size (w : World) : (sumW w).heap.size = w.heap.size + 2 := by simp [sumW]

theorem two_cells {w : World} {a b : Nat} {x y : Value} (h0 : w.cell? ⟨a, 0, none⟩ = some x) (h1 : w.cell? ⟨b, 0, none⟩ = some y) (hne : a ≠ b) (u v : Value) :
    ((w.setCell ⟨a, 0, none⟩ u).setCell ⟨b, 0, none⟩ v).cell? ⟨a, 0, none⟩ = some u ∧ ((w.setCell ⟨a, 0, none⟩ u).setCell ⟨b, 0, none⟩ v).cell? ⟨b, 0, none⟩ = some v := by
  have n1 : (⟨b, 0, none⟩ : Addr) ≠ ⟨a, 0, none⟩ := fun e => hne (congrArg Addr.block e).symm
  have n2 : (⟨a, 0, none⟩ : Addr) ≠ ⟨b, 0, none⟩ := fun e => hne (congrArg Addr.block e)
  constructor
  · rw [World.cell?_setCell_other _ _ _ _ n1]
    exact World.cell?_setCell_same _ _ _ h0
  · exact World.cell?_setCell_same _ _ _ (u := y) (by rw [World.cell?_setCell_other _ _ _ _ n2]; exact h1)

theorem plusP_in (h1 l1 h2 l2 x y : Int) (w : World) (hx : IsWide h1 l1 x) (hy : IsWide h2 l2 y) (hin : InWide (x + y)) :
    Calls Try.prog 25 #[.agg #[.int .i64 h1, .int .u64 l1], .agg #[.int .i64 h2, .int .u64 l2]] w fun e w' => (∃ hi lo, e = .returned (.tuple #[.agg #[.int .i64 hi, .int .u64 lo], .int .i64 0]) ∧ IsWide hi lo (x + y)) ∧ Kept w w' :=
  (plusP_calls h1 l1 h2 l2 x y w hx hy).mono fun _ _ ⟨h, k⟩ => ⟨h.elim (fun h => h.2) (fun h => absurd hin h.1), k⟩

/-- What the round of the sum keeps. -/
structure SumRel (w : World) (B : Nat) (zs : List Int) (k : Nat) (hi lo : Int) (wr : World) : Prop where
  c0 : wr.cell? ⟨B, 0, none⟩ = some (.int .i64 hi)
  c1 : wr.cell? ⟨B, 1, none⟩ = some (.int .u64 lo)
  f0 : wr.frozen? ⟨B, 0, none⟩ = false
  f1 : wr.frozen? ⟨B, 1, none⟩ = false
  wide : IsWide hi lo (sumTo zs k)
  kept : Kept (sumW w) wr

theorem SumRel.step {w : World} {B : Nat} {zs : List Int} {k : Nat} {hi lo hi' lo' : Int} {wr wx : World} (h : SumRel w B zs k hi lo wr) (K : Kept wr wx) (hB : w.heap.size + 2 ≤ B) (hw : IsWide hi' lo' (sumTo zs (k + 1))) :
    SumRel w B zs (k + 1) hi' lo' ((wx.setCell ⟨B, 0, none⟩ (.int .i64 hi')).setCell ⟨B, 1, none⟩ (.int .u64 lo')) := by
  obtain ⟨d0, d1, e0, e1⟩ := nbox K h.c0 h.c1 h.f0 h.f1
  obtain ⟨r1, r2, r3, r4⟩ := box2w d0 d1 (.int .i64 hi') (.int .u64 lo')
  refine ⟨r3, r4, by simpa [go_sem] using e0, by simpa [go_sem] using e1, hw, ?_⟩
  exact ((h.kept.trans K).setCell (by rw [sumW_size]; exact hB) _).setCell (by rw [sumW_size]; exact hB) _

set_option maxRecDepth 100000 in
set_option maxHeartbeats 2000000 in
theorem sum_calls (ao : Option Addr) (n cap : Nat) (zs : List Int) (w : World) (h : IRow w ao n cap zs) :
    Calls Try.prog 27 #[.slice ao n cap] w fun e w' => e = .returned (.tuple #[.int .i64 (narrow (sumTo zs n)).1, .int .i64 (narrow (sumTo zs n)).2]) ∧ Kept w w' := by
  have hmf : ∀ (fn : Fn) (first cap : Array Value) (w : World), (Instr.makeFunc fn first cap).run Try.prog w = .ok (.func fn first cap) w := fun _ _ _ _ => rfl
  have hl1 : n ≤ zs.length := Nat.le_of_eq h.len
  have hm := h.most
  go_enter_defers Try.func27, Try.ntmps27
  go_wp2_with fail
  refine (widen_calls 0 _ (by omega) (by omega)).mono ?_
  rintro e wa ⟨⟨hi, lo, rfl, hw⟩, K1⟩
  have hB : w.heap.size + 2 ≤ wa.heap.size := by have := K1.size; rw [← sumW_size]; exact this
  have hS0 : SumRel w wa.heap.size zs 0 hi lo (wa.alloc (Obj.cells #[Value.int .i64 hi, Value.int .u64 lo] 40)) :=
    ⟨by simp [go_sem], by simp [go_sem], by simp [go_sem], by simp [go_sem], by rw [sumTo_zero]; exact hw, Kept.alloc K1 _⟩
  obtain ⟨B, eB⟩ : ∃ B, B = wa.heap.size := ⟨_, rfl⟩
  clear hw
  go_wp2_with fail
  go_loopw [11] (fun i wr => ∃ (k : Nat) (hi lo : Int), k ≤ n ∧ i = .int .i64 k ∧ SumRel w wa.heap.size zs k hi lo wr) (fun i _ => n - (intOf i).toNat)
  case atStart => exact ⟨0, hi, lo, by omega, rfl, hS0⟩
  case round =>
    obtain ⟨k, hk1, lk1, hk, rfl, R⟩ := hrel
    have r0 := R.c0
    have r1 := R.c1
    have g0 := R.f0
    have g1 := R.f1
    have hwd := R.wide
    by_cases hgo : (k : Int) < (n : Int)
    · obtain ⟨b, off, rfl, hc⟩ := h.cell (by omega)
      have hcx := ((sumW_kept w).trans R.kept).cell (hc k (by omega))
      obtain ⟨x1, x2⟩ := h.fits k
      have hsum := sumTo_succ zs k (by omega)
      have bd := sumTo_bd zs h.fits (k + 1) (by omega)
      clear hc
      obtain ⟨x, ex⟩ : ∃ x, x = zs.getD k 0 := ⟨_, rfl⟩
      rw [← ex] at hcx x1 x2 hsum
      have hin : InWide (sumTo zs k + x) := by rw [← hsum]; unfold InWide; omega
      have HS := hid_of hsum
      clear ex hsum bd
      go_wp2_with fail
      refine wp_region_noPanic ?_
      go_region_with (first | (go_at_call 24; refine (widen_calls x _ x1 x2).mono ?_; rintro e wb ⟨⟨hi2, lo2, rfl, hw2⟩, K2⟩; have t0 := K2.cell (p := ⟨wa.heap.size, 0, none⟩) (v := .int .i64 hk1) r0; have t1 := K2.cell (p := ⟨wa.heap.size, 1, none⟩) (v := .int .u64 lk1) r1) | (go_at_call 25; refine (plusP_in hk1 lk1 hi2 lo2 (sumTo zs k) x _ hwd hw2 hin).mono ?_; rintro e wc ⟨⟨hi3, lo3, rfl, hw3⟩, K3⟩) | (go_at_call 43; refine (checkedW_ok hi3 lo3 _).mono ?_; rintro e wd ⟨rfl, K4⟩; obtain ⟨s0, s1, s2, s3⟩ := nbox (((K2.trans K3)).trans K4) (w := wr.drew) r0 r1 g0 g1))
      all_goals
        refine NoPanic.normal ?_
        go_wp2
        go_roundw
        case rel =>
          refine ⟨k + 1, hi3, lo3, by omega, by go_num, ?_⟩
          exact R.step (kept_of_drew ((K2.trans K3).trans K4)) hB (by rw [HS.out]; exact hw3)
        case measure => simp [intOf]; omega
    · obtain rfl : k = n := by omega
      have KR := (sumW_kept w).trans R.kept
      have n0 : wr.cell? ⟨w.heap.size, 0, none⟩ = some (.int .i64 0) := R.kept.cell (by simp [sumW, go_sem])
      have e0 : wr.cell? ⟨w.heap.size + 1, 0, none⟩ = some (.int .i64 0) := R.kept.cell (by simp [sumW, go_sem])
      have nf : wr.frozen? ⟨w.heap.size, 0, none⟩ = false := (Below.frozen (p := ⟨w.heap.size, 0, none⟩) R.kept (by rw [sumW_size]; show w.heap.size < _; omega)).trans (by simp [sumW, go_sem])
      have ef : wr.frozen? ⟨w.heap.size + 1, 0, none⟩ = false := (Below.frozen (p := ⟨w.heap.size + 1, 0, none⟩) R.kept (by rw [sumW_size]; show w.heap.size + 1 < _; omega)).trans (by simp [sumW, go_sem])
      have hgo' : ¬ ((k : Int) < (k : Int)) := by omega
      clear hgo
      go_wp2_with fail
      refine (narrowP_calls hk1 lk1 _ _ hwd).mono ?_
      rintro e wb ⟨rfl, K2⟩
      have n1 := K2.cell n0
      have e1 := K2.cell e0
      have nf1 : wb.frozen? ⟨w.heap.size, 0, none⟩ = false := (Below.frozen (p := ⟨w.heap.size, 0, none⟩) K2 (lt_of_cell n0)).trans nf
      have ef1 : wb.frozen? ⟨w.heap.size + 1, 0, none⟩ = false := (Below.frozen (p := ⟨w.heap.size + 1, 0, none⟩) K2 (lt_of_cell e0)).trans ef
      obtain ⟨s, es⟩ : ∃ s, s = sumTo zs k := ⟨_, rfl⟩
      rw [← es] at hwd ⊢
      have HE := hid_of es
      clear es
      by_cases hr : -9223372036854775808 ≤ s ∧ s ≤ 9223372036854775807
      · have hn := narrow_in hr.1 hr.2
        rw [hn]
        have HN := hid_of hn
        clear hn
        go_wp2_with fail
        refine (checkedI_ok s _).mono ?_
        rintro e wc ⟨rfl, rfl⟩
        go_wp2
        refine leaves_cons (f := 41) (args := #[.pointer (some ⟨w.heap.size, 0, none⟩), .pointer (some ⟨w.heap.size + 1, 0, none⟩)]) (by simp) (by simp [go_sem]) ?_
        refine (catch_idle w.heap.size (w.heap.size + 1) _).mono ?_
        rintro e u' w'' ⟨rfl, rfl, rfl⟩
        obtain ⟨q1, q2⟩ := two_cells n1 e1 (by omega) (.int .i64 s) (.int .i64 0)
        refine ⟨.tuple #[.int .i64 s, .int .i64 0], by simp [results, Try.results27, go_sem, q1, q2], ?_, ?_⟩
        · rw [← HE.out, HN.out]
        · exact ((KR.trans K2).setCell (Nat.le_refl _) _).setCell (Nat.le_succ _) _
      · have hn := narrow_out (z := s) (by omega)
        rw [hn]
        have HN := hid_of hn
        clear hn
        go_wp2_with fail
        refine (checkedI_no 0 10 _ (by decide)).mono ?_
        rintro e wc ⟨rfl, rfl⟩
        go_wp2
        refine leaves_cons (f := 41) (args := #[.pointer (some ⟨w.heap.size, 0, none⟩), .pointer (some ⟨w.heap.size + 1, 0, none⟩)]) (by simp) (by simp [go_sem]) ?_
        refine (catch_panicking w.heap.size (w.heap.size + 1) 10 0 0 [] _ n1 e1 nf1 ef1 (by omega)).mono ?_
        rintro e u' w'' ⟨rfl, rfl, wx, K5, rfl⟩
        have m1 := K5.cell n1
        have m2 := K5.cell e1
        obtain ⟨q1, q2⟩ := two_cells m1 m2 (by omega) (.int .i64 0) (.int .i64 10)
        have KF : Kept w ((wx.setCell ⟨w.heap.size, 0, none⟩ (.int .i64 0)).setCell ⟨w.heap.size + 1, 0, none⟩ (.int .i64 10)) := (((KR.trans K2).trans K5).setCell (Nat.le_refl _) _).setCell (Nat.le_succ _) _
        simp [Leaves, settle, results, Try.results27, go_sem, q1, q2]
        rw [← HE.out, HN.out]
        exact ⟨⟨rfl, rfl⟩, KF⟩
end Go.Proofs.Ytalofkabkcpicaa
