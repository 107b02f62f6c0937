/- The law's first question: awake. -/
import Derived.Test.YtjheiaegpoppaaaWkG
namespace Go.Proofs.Ytjheiaegpoppaaa
open Go.RowKit

/-- Three nodes in a row. -/
def line3 : List Ed := [⟨0, 1, 0, 0⟩, ⟨1, 2, 0, 0⟩]

theorem line_fault : faultOf 3 line3 = (0, 0) := by decide
theorem line_range : ∀ e ∈ line3, 0 ≤ e.f ∧ e.f < ((3 : Nat) : Int) ∧ 0 ≤ e.t ∧ e.t < ((3 : Nat) : Int) := by
  intro e he
  simp only [line3, List.mem_cons, List.not_mem_nil, or_false] at he
  rcases he with rfl | rfl <;> simp

theorem line_succ : ∀ k, k < 3 → ∃ v, nextV line3 3 (ordl line3 3 k) = some v := by
  intro k hk
  match k, hk with
  | 0, _ => exact ⟨0, by decide⟩
  | 1, _ => exact ⟨1, by decide⟩
  | 2, _ => exact ⟨2, by decide⟩
theorem line_ord : ordl line3 3 3 = [0, 1, 2] := by decide

theorem line_lev {lv : Nat → Int} (h : LevOf line3 2 3 0 lv) : lv 2 = 2 := by
  obtain ⟨K, -, hK, rfl⟩ := h.ex
  have h3 : ∀ k, it (nxt line3 2) lval ⟨[0], lv0 0⟩ (k + 3) = it (nxt line3 2) lval ⟨[0], lv0 0⟩ 3 := by
    intro k
    induction k with
    | zero => rfl
    | succ k ih =>
      show (nxt line3 2 ((it (nxt line3 2) lval ⟨[0], lv0 0⟩ (k + 3)).q.getD (k + 3) 0)).foldl (ent lval ((it (nxt line3 2) lval ⟨[0], lv0 0⟩ (k + 3)).q.getD (k + 3) 0)) (it (nxt line3 2) lval ⟨[0], lv0 0⟩ (k + 3)) = _
      rw [ih]
      have hq : (it (nxt line3 2) lval ⟨[0], lv0 0⟩ 3).q = [0, 1, 2] := by decide
      have hg : (it (nxt line3 2) lval ⟨[0], lv0 0⟩ 3).q.getD (k + 3) 0 = 0 := by rw [hq]; simp [List.getD]
      rw [hg]
      have hL : nxt line3 2 0 = [1] := by decide
      rw [hL]
      have hp : ¬ (it (nxt line3 2) lval ⟨[0], lv0 0⟩ 3).lv 1 < 0 := by decide
      show ent lval 0 (it (nxt line3 2) lval ⟨[0], lv0 0⟩ 3) 1 = _
      unfold ent
      rw [if_neg (by simpa using hp)]
  match K, hK with
  | 0, hK => exact absurd hK (by decide)
  | 1, hK => exact absurd hK (by decide)
  | 2, hK => exact absurd hK (by decide)
  | k + 3, hK =>
    rw [h3 k]
    decide

set_option maxRecDepth 100000 in
set_option maxHeartbeats 2000000 in
theorem line_calls (w : World) : Calls Try.prog 18 #[] w fun r w' => ∃ b, r = .returned (.agg #[.int .i64 3, .slice (some ⟨b, 0, none⟩) 2 2]) ∧ ERow w' (some ⟨b, 0, none⟩) 2 2 line3 ∧ Kept w w' := by
  have K : Kept w ((w.alloc (Obj.cells #[.int .i64 3, .slice (some ⟨w.heap.size + 1, 0, none⟩) 2 2] 24)).alloc (Obj.cells #[.int .i64 0, .int .i64 1, .int .i64 0, .int .i64 0, .int .i64 1, .int .i64 2, .int .i64 0, .int .i64 0] 42)) := ((Kept.refl w).alloc _).alloc _
  have E : Hid (ERow ((w.alloc (Obj.cells #[.int .i64 3, .slice (some ⟨w.heap.size + 1, 0, none⟩) 2 2] 24)).alloc (Obj.cells #[.int .i64 0, .int .i64 1, .int .i64 0, .int .i64 0, .int .i64 1, .int .i64 2, .int .i64 0, .int .i64 0] 42)) (some ⟨w.heap.size + 1, 0, none⟩) 2 2 line3) := by
    refine ⟨rfl, Nat.le_refl _, by unfold maxLen; omega, fun _ => ⟨w.heap.size + 1, 0, rfl, fun i hi => ?_⟩⟩
    match i, hi with
    | 0, _ => exact ⟨by simp [go_sem, edAt, line3], by simp [go_sem, edAt, line3], by simp [go_sem, edAt, line3], by simp [go_sem, edAt, line3]⟩
    | 1, _ => exact ⟨by simp [go_sem, edAt, line3], by simp [go_sem, edAt, line3], by simp [go_sem, edAt, line3], by simp [go_sem, edAt, line3]⟩
  go_enter Try.func18, Try.ntmps18
  go_wp2_with fail
  exact bodyPost_ret (v := .agg #[.int .i64 3, .slice (some ⟨w.heap.size + 1, 0, none⟩) 2 2]) (by simp [results, Try.results18, go_sem]) rfl ⟨_, rfl, E.out, K⟩

set_option maxRecDepth 100000 in
set_option maxHeartbeats 4000000 in
theorem awake_calls (w : World) : Calls Try.prog 10 #[] w fun v w' => v = .returned (.bool true) ∧ Kept w w' := by
  go_enter Try.func10, Try.ntmps10
  go_wp2_with fail
  refine (line_calls w).mono ?_
  rintro r w1 ⟨b1, rfl, E1, K1⟩
  have LC := hid_of (levels_calls 3 (by omega) (some ⟨b1, 0, none⟩) 2 2 line3 w1 E1 (hid_of line_fault) (by omega) (hid_of line_range) 0 (by omega))
  have K1H := hid_of K1
  clear E1 K1
  go_wp2_with fail
  refine LC.out.mono ?_
  rintro r w2 ⟨g, lv, rfl, LV, I2, lg, K2⟩
  have hl2 := line_lev LV
  have KA := hid_of (K1H.out.trans K2)
  have I2H := hid_of I2
  clear LV I2 lg K2 LC K1H
  go_wp2_with fail
  refine (line_calls w2).mono ?_
  rintro r w3 ⟨b3, rfl, E3, K3⟩
  have OC := hid_of (order_calls 3 (by omega) (some ⟨b3, 0, none⟩) 2 2 line3 w3 E3 (hid_of line_fault) (by omega) (hid_of line_range) (hid_of line_succ))
  have I3 := hid_of (I2H.out.kept K3)
  have KB := hid_of (KA.out.trans K3)
  clear E3 K3 I2H KA
  go_wp2_with fail
  refine OC.out.mono ?_
  rintro r w4 ⟨so, sc, rfl, O4, K4⟩
  rw [line_ord] at O4
  have J := JRow.of_owns O4
  obtain ⟨b, off, e, hc⟩ := J.cell (by omega)
  subst e
  have hr := J.room
  have hm := J.most
  unfold maxLen at hm
  have c0 := hc 0 (by omega)
  have c2 := hc 2 (by omega)
  simp only [qz, List.map_cons, List.map_nil, List.getD_cons_zero, List.getD_cons_succ, Nat.add_zero] at c0 c2
  have i2 := (I3.out.kept K4).cell (i := 2) (by omega)
  rw [hl2] at i2
  have KC := hid_of (KB.out.trans K4)
  clear J hc O4 K4 I3 KB OC
  go_wp2_with fail
  go_ret
  exact ⟨rfl, KC.out⟩
end Go.Proofs.Ytjheiaegpoppaaa
