/- The document's sum of many and its polynomial. -/
import Derived.Test.YtalofkabkcpicaaTimes
import Derived.Test.YtalofkabkcpicaaLims
import Derived.Test.YtalofkabkcpicaaPolyP
namespace Go.Proofs.Ytalofkabkcpicaa
open Go.RowKit

theorem lim126 {k : Nat} {a : Int} (hk : k ≤ 9223372036854775807) (h : -9223372036854775808 * (k : Int) ≤ a ∧ a ≤ 9223372036854775808 * (k : Int)) : a.natAbs < LIM := by
  have h' : 9223372036854775808 * 9223372036854775808 < LIM := by unfold LIM; decide
  omega

structure RSum (w : World) (zs : List Int) (k : Nat) (m : Bool) (ao : Option Addr) (n cap : Nat) (wr : World) : Prop where
  c0 : wr.cell? ⟨w.heap.size, 0, none⟩ = some (.bool m)
  c1 : wr.cell? ⟨w.heap.size, 1, none⟩ = some (.slice ao n cap)
  f0 : wr.frozen? ⟨w.heap.size, 0, none⟩ = false
  f1 : wr.frozen? ⟨w.heap.size, 1, none⟩ = false
  big : BigAt wr (.agg #[.bool m, .slice ao n cap]) (sumTo zs k)
  kept : Kept w wr

theorem RSum.step {w : World} {zs : List Int} {k : Nat} {m m' : Bool} {ao ao' : Option Addr} {n n' cap cap' : Nat} {wr wx : World} (h : RSum w zs k m ao n cap wr) (K : Kept wr wx) (hb : BigAt wx (.agg #[.bool m', .slice ao' n' cap']) (sumTo zs (k + 1))) :
    RSum w zs (k + 1) m' ao' n' cap' ((wx.setCell ⟨w.heap.size, 0, none⟩ (.bool m')).setCell ⟨w.heap.size, 1, none⟩ (.slice ao' n' cap')) := by
  obtain ⟨d0, d1, e0, e1⟩ := nbox K h.c0 h.c1 h.f0 h.f1
  obtain ⟨r1, r2, r3, r4⟩ := box2w d0 d1 (.bool m') (.slice ao' n' cap')
  refine ⟨r3, r4, by simpa [go_sem] using e0, by simpa [go_sem] using e1, hb.box2w d0 d1 _ _, ?_⟩
  exact ((h.kept.trans K).setCell (Nat.le_refl _) _).setCell (Nat.le_refl _) _

set_option maxRecDepth 100000 in
set_option maxHeartbeats 2000000 in
theorem sumR_calls (ao : Option Addr) (n cap : Nat) (zs : List Int) (w : World) (h : IRow w ao n cap zs) :
    Calls Try.prog 28 #[.slice ao n cap] w fun e w' => e = .returned (.tuple #[.int .i64 (Go.Proofs.Ytalofkabkcpicaa.narrow (sumTo zs n)).1, .int .i64 (Go.Proofs.Ytalofkabkcpicaa.narrow (sumTo zs n)).2]) ∧ Kept w w' := by
  have hl1 : n ≤ zs.length := Nat.le_of_eq h.len
  have hm := h.most
  have hS0 : RSum w zs 0 false none 0 0 (w.alloc (Obj.cells #[Value.bool false, Value.slice none 0 0] 25)) :=
    ⟨by simp [go_sem], by simp [go_sem], by simp [go_sem], by simp [go_sem], BigAt.mk' (ds := []) ⟨rfl, Nat.le_refl _, by unfold maxLen; omega, fun h => by omega⟩ Dg.canon_nil (fun h => by simp at h) (by rw [sumTo_zero]; simp [Dg.val]), (Kept.refl _).alloc _⟩
  go_enter Try.func28, Try.ntmps28
  go_wp2_with fail
  go_loopw [5] (fun i wr => ∃ (k : Nat) (m : Bool) (a : Option Addr) (l c : Nat), k ≤ n ∧ i = .int .i64 k ∧ RSum w zs k m a l c wr) (fun i _ => n - (intOf i).toNat)
  case atStart => exact ⟨0, false, none, 0, 0, by omega, rfl, hS0⟩
  case round =>
    obtain ⟨k, m, a, l, c, hk, rfl, R⟩ := hrel
    have r0 := R.c0
    have r1 := R.c1
    have g0 := R.f0
    have g1 := R.f1
    by_cases hgo : (k : Int) < (n : Int)
    · obtain ⟨b, off, rfl, hc⟩ := h.cell (by omega)
      have hcx := R.kept.cell (hc k (by omega))
      obtain ⟨x1, x2⟩ := h.fits k
      have hsum := sumTo_succ zs k (by omega)
      have bd := lim126 (by omega) (sumTo_bd zs h.fits k (by omega))
      clear hc
      obtain ⟨x, ex⟩ : ∃ x, x = zs.getD k 0 := ⟨_, rfl⟩
      rw [← ex] at hcx x1 x2 hsum
      have HS := hid_of hsum
      clear ex hsum
      have BB := R.big
      go_wp2_with fail
      go_region_with (first | (go_at_call 10; refine (of_calls x _ x1 x2).mono ?_; rintro e wb ⟨v2, rfl, B2, K2⟩; have t0 := K2.cell (p := ⟨w.heap.size, 0, none⟩) (v := .bool m) r0; have t1 := K2.cell (p := ⟨w.heap.size, 1, none⟩) (v := .slice a l c) r1) | (go_at_call 13; refine (plus_calls _ _ (sumTo zs k) x _ (BB.kept ((Kept.refl _).drew.trans K2)) B2 bd (lim64 x1 x2)).mono ?_; rintro e wc ⟨v3, rfl, B3, K3⟩; obtain ⟨m3, a3, l3, c3, ds3, rfl, -, -, -, -⟩ := B3.ex; obtain ⟨s0, s1, s2, s3⟩ := nbox (K2.trans K3) (w := wr.drew) r0 r1 g0 g1))
      all_goals
        go_wp2
        go_roundw
        case rel =>
          refine ⟨k + 1, m3, a3, l3, c3, by omega, by go_num, ?_⟩
          exact R.step (kept_of_drew (K2.trans K3)) (by rw [HS.out]; exact B3)
        case measure => simp [intOf]; omega
    · obtain rfl : k = n := by omega
      clear hgo
      go_wp2_with fail
      refine (narrow_calls _ _ _ R.big).mono ?_
      rintro e wb ⟨rfl, K2⟩
      go_wp2
      go_ret2
      exact ⟨rfl, R.kept.trans K2⟩

set_option maxRecDepth 100000 in
set_option maxHeartbeats 2000000 in
theorem polyR_calls (ao : Option Addr) (n cap : Nat) (zs : List Int) (x : Int) (w : World) (h : IRow w ao n cap zs) (x1 : -9223372036854775808 ≤ x) (x2 : x ≤ 9223372036854775807) :
    Calls Try.prog 30 #[.slice ao n cap, .int .i64 x] w fun e w' => e = .returned (.tuple #[.int .i64 (polyAt zs x n).1, .int .i64 (polyAt zs x n).2]) ∧ Kept w w' := by
  have hl1 : n ≤ zs.length := Nat.le_of_eq h.len
  have hm := h.most
  go_enter Try.func30, Try.ntmps30
  go_wp2_with fail
  go_loopw [6, 7] (fun v i wr => ∃ (k : Nat) (p : Int), k ≤ n ∧ i = .int .i64 k ∧ v = .int .i64 p ∧ polyAt zs x k = (p, 0) ∧ -9223372036854775808 ≤ p ∧ p ≤ 9223372036854775807 ∧ Kept w wr) (fun _ i _ => n - (intOf i).toNat)
  case atStart => exact ⟨0, 0, by omega, rfl, rfl, rfl, by omega, by omega, Kept.refl _⟩
  case round =>
    obtain ⟨k, p, hk, rfl, rfl, hp, p1, p2, KR⟩ := hrel
    have HP := hid_of hp
    clear hp
    by_cases hgo : (k : Int) < (n : Int)
    · obtain ⟨b, off, rfl, hc⟩ := h.cell (by omega)
      have hcx := KR.cell (hc k (by omega))
      obtain ⟨c1, c2⟩ := h.fits k
      clear hc
      obtain ⟨c, ec⟩ : ∃ c, c = zs.getD k 0 := ⟨_, rfl⟩
      rw [← ec] at hcx c1 c2
      have EC := hid_of ec
      clear ec
      go_wp2_with fail
      refine (of_calls p _ p1 p2).mono ?_
      rintro e wa ⟨v1, rfl, B1, K1⟩
      go_wp2_with fail
      refine (of_calls x _ x1 x2).mono ?_
      rintro e wb ⟨v2, rfl, B2, K2⟩
      go_wp2_with fail
      refine (times_calls _ _ p x _ (B1.kept K2) B2 (lim64 p1 p2) (lim64 x1 x2)).mono ?_
      rintro e wc ⟨v3, rfl, B3, K3⟩
      go_wp2_with fail
      refine (narrow_calls v3 _ _ B3).mono ?_
      rintro e wd ⟨rfl, K4⟩
      have KD : Kept wr wd := ((K1.trans K2).trans K3).trans K4
      have hcy := KD.cell hcx
      by_cases hr : -9223372036854775808 ≤ p * x ∧ p * x ≤ 9223372036854775807
      · have hn := narrow_in hr.1 hr.2
        rw [hn]
        clear hn
        obtain ⟨m, em⟩ : ∃ m, m = p * x := ⟨_, rfl⟩
        rw [← em] at hr ⊢
        have EM := hid_of em
        clear em
        obtain ⟨r1, r2⟩ := hr
        clear K1 K2 K3 K4 B1 B2 B3 hcx
        have i1 : (0 : Int) ≤ (k : Int) := by omega
        go_wp2_with fail
        refine Ord.region [(0, 0), (2, 0), (3, 0), (4, 0), (5, 1), (1, 2), (6, 2), (7, 2), (8, 2), (9, 0), (10, 0), (11, 0), (12, 0), (13, 0)] (fun w' => Kept wd w') (by kernel_rfl) (by kernel_rfl) (by kernel_rfl) (by kernel_rfl) (fun _ _ d _ _ h => by cases d <;> exact h) ((Kept.refl _).drewN _) ?_
        repeat
          refine Ord.step rfl (fun K hK => ?_)
          simp only [Ord.body]
          go_simp
          first
            | (refine hK _ _ ?_; clear hK K)
            | (refine ⟨_, fun w' hS => (by have c0 := hS.cell hcy; simp only [c0, Result.andThen]; rfl), hK _ _ ?_⟩; clear hK K)
            | (go_at_call_of 10 (Value.int IntKind.i64 m); refine (of_calls m _ r1 r2).mono ?_; rintro e wf ⟨v4, rfl, B4, K6⟩; refine ⟨((Kept.refl _).drewN _).trans K6, hK _ _ ?_⟩; clear hK K)
            | (go_at_call_of 10 (Value.int IntKind.i64 c); refine (of_calls c _ c1 c2).mono ?_; rintro e wg ⟨v5, rfl, B5, K7⟩; refine ⟨(((Kept.refl _).drewN _).trans K6).trans K7, hK _ _ ?_⟩; clear hK K)
            | (go_at_call 13; refine (plus_calls _ _ m c _ (B4.kept K7) B5 (lim64 r1 r2) (lim64 c1 c2)).mono ?_; rintro e wh ⟨v6, rfl, B6, K8⟩; refine ⟨((((Kept.refl _).drewN _).trans K6).trans K7).trans K8, hK _ _ ?_⟩; clear hK K)
            | (go_at_call 12; refine (narrow_calls v6 _ _ B6).mono ?_; rintro e wi ⟨rfl, K9⟩; refine ⟨(((((Kept.refl _).drewN _).trans K6).trans K7).trans K8).trans K9, hK _ _ ?_⟩; clear hK K)
        refine Ord.done ?_
        have KI : Kept w wi := (KR.trans KD).trans (((((Kept.refl _).drewN _).trans K6).trans K7).trans (K8.trans K9))
        by_cases hr2 : -9223372036854775808 ≤ m + c ∧ m + c ≤ 9223372036854775807
        · have hn2 := narrow_in hr2.1 hr2.2
          rw [hn2]
          have HN2 := hid_of hn2
          clear hn2
          obtain ⟨t1, t2⟩ := hr2
          obtain ⟨q, eq⟩ : ∃ q, q = m + c := ⟨_, rfl⟩
          rw [← eq] at t1 t2 ⊢
          have EQ := hid_of eq
          clear eq
          go_wp2
          go_roundw
          case rel =>
            refine ⟨k + 1, q, by omega, by go_num, rfl, ?_, t1, t2, KI⟩
            rw [polyAt_ok zs x k p m HP.out (by rw [← EM.out]; exact narrow_in r1 r2), ← EC.out, HN2.out, EQ.out]
          case measure => simp [intOf]; omega
        · have hn2 := narrow_out (z := m + c) (by omega)
          rw [hn2]
          have HN2 := hid_of hn2
          clear hn2
          have HF := hid_of (polyAt_late zs x k p m n HP.out (by rw [← EM.out]; exact narrow_in r1 r2) (by rw [← EC.out]; exact HN2.out) (by omega))
          go_wp2
          go_ret2
          exact ⟨by rw [HF.out]; rfl, KI⟩
      · have hn := narrow_out (z := p * x) (by omega)
        rw [hn]
        have HN := hid_of hn
        clear hn
        have HF := hid_of (polyAt_early zs x k p n HP.out HN.out (by omega))
        go_wp2
        go_ret2
        exact ⟨by rw [HF.out]; rfl, KR.trans KD⟩
    · obtain rfl : k = n := by omega
      clear hgo
      go_wp2
      go_ret2
      exact ⟨by rw [HP.out]; rfl, KR⟩
end Go.Proofs.Ytalofkabkcpicaa
