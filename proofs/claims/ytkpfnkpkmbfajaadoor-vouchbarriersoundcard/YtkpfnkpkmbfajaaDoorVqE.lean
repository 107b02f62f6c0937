/- The document's Rising, At. -/
import Derived.Test.YtkpfnkpkmbfajaaDoorVpD
namespace Go.Proofs.YtkpfnkpkmbfajaaDoor
open Go.RowKit

theorem rise_step {c : List Int} {e : Int} {k : Nat} (h : RiseTo c e k) (hk : lastOf c k < zAt c k ∧ zAt c k < e) : RiseTo c e (k + 1) := fun j hj => by
  by_cases t : j = k
  · subst t; exact hk
  · exact h j (by omega)

set_option maxRecDepth 100000 in
set_option linter.unusedSimpArgs false in
set_option maxHeartbeats 4000000 in
theorem risingR_calls (co : Option Addr) (L cc : Nat) (c : List Int) (e : Int) (w : World) (hJ : JRow w co L cc c) :
    Calls Tryd.prog 54 #[.slice co L cc, .int .i64 e] w fun r w' => Kept w w' ∧ ((RiseTo c e L ∧ r = .returned (.bool true)) ∨ (¬ RiseTo c e L ∧ r = .returned (.bool false))) := by
  have hr2 := hJ.room
  have hm2 := hJ.most
  unfold maxLen at hm2
  have HJ := hid_of hJ
  clear hJ
  go_enter Tryd.func54, Tryd.ntmps54
  go_wp2_with fail
  go_loopw [5] (fun i wr => ∃ (k : Nat), k ≤ L ∧ i = .int .i64 k ∧ Kept w wr ∧ RiseTo c e k) (fun i _ => L - (intOf i).toNat)
  case atStart => exact ⟨0, by omega, rfl, Kept.refl _, fun i hi => by omega⟩
  case round =>
    obtain ⟨k, hk, rfl, K, hno⟩ := hrel
    have HNO := hid_of hno
    have KH := hid_of K
    clear hno
    by_cases hgo : (k : Int) < (L : Int)
    · obtain ⟨b, off, rfl, hc⟩ := (HJ.out.kept K).at (by omega)
      have d := hc k (by omega)
      have HIT := hid_of (rise_step (e := e) HNO.out)
      have MISS : Hid (¬ (lastOf c k < zAt c k ∧ zAt c k < e) → ¬ RiseTo c e L) := fun hb t => hb (t k (by omega))
      have LST : Hid (0 < k → lastOf c k = zAt c (k - 1)) := fun h0 => by
        obtain ⟨j, rfl⟩ : ∃ j, k = j + 1 := ⟨k - 1, by omega⟩
        rfl
      have NN : Hid (-1 ≤ lastOf c k) := by
        show -1 ≤ lastOf c k
        cases k with
        | zero => exact Int.le_refl _
        | succ j => have := HNO.out.nonneg j (by omega); show -1 ≤ zAt c j; omega
      have dp : 0 < k → wr.cell? ⟨b, off + (k - 1), none⟩ = some (.int .i64 (zAt c (k - 1))) := fun h0 => hc (k - 1) (by omega)
      have ZERO : Hid (k = 0 → lastOf c k = -1) := fun h0 => by subst h0; rfl
      generalize zAt c k = x at d HIT MISS
      clear hc
      by_cases hx : x < 0
      · have P := hid_of (MISS.out (by have := NN.out; omega))
        have q1 : decide (x < 0) = true := decide_eq_true hx
        clear HIT MISS LST NN dp ZERO
        go_upto_region 4 with fail
        refine Ord.region [(0, 0), (1, 0), (2, 0), (3, 1), (4, 0), (5, 0), (6, 0), (7, 0), (8, 0), (9, 1), (10, 0), (11, 0), (12, 0), (13, 0), (14, 0), (15, 0), (16, 0), (17, 0), (18, 0), (19, 0), (20, 1), (21, 0), (22, 0), (23, 0), (24, 0), (25, 1), (26, 0), (27, 0), (28, 0)] (fun w' => Kept wr w') (by kernel_rfl) (by kernel_rfl) (by kernel_rfl) (by kernel_rfl) (fun _ _ d _ _ h => by cases d <;> exact h) ((Kept.refl _).drewN _) ?_
        repeat
          refine Ord.step rfl (fun Ko hK => ?_)
          simp only [Ord.body]
          go_simp
          first
            | (refine hK _ _ ?_; clear hK Ko)
            | (refine ⟨_, fun w' hS => (by have c0 := hS.cell d; simp only [c0, Result.andThen]; rfl), hK _ _ ?_⟩; clear hK Ko)
            | ((simp only [q1]))
        refine Ord.done ?_
        have KN := hid_of (KH.out.trans ((Kept.refl wr).drewN 1))
        go_wp2
        go_ret
        exact ⟨KN.out, .inr ⟨P.out, rfl⟩⟩
      have q1 : decide (x < 0) = false := decide_eq_false hx
      by_cases hxe : e ≤ x
      · have P := hid_of (MISS.out (by omega))
        have q2 : decide (e ≤ x) = true := decide_eq_true hxe
        clear HIT MISS LST NN dp ZERO
        go_upto_region 4 with fail
        refine Ord.region [(0, 0), (1, 0), (2, 0), (3, 1), (4, 0), (5, 0), (6, 0), (7, 0), (8, 0), (9, 1), (10, 0), (11, 0), (12, 0), (13, 0), (14, 0), (15, 0), (16, 0), (17, 0), (18, 0), (19, 0), (20, 1), (21, 0), (22, 0), (23, 0), (24, 0), (25, 1), (26, 0), (27, 0), (28, 0)] (fun w' => Kept wr w') (by kernel_rfl) (by kernel_rfl) (by kernel_rfl) (by kernel_rfl) (fun _ _ d _ _ h => by cases d <;> exact h) ((Kept.refl _).drewN _) ?_
        repeat
          refine Ord.step rfl (fun Ko hK => ?_)
          simp only [Ord.body]
          go_simp
          first
            | (refine hK _ _ ?_; clear hK Ko)
            | (refine ⟨_, fun w' hS => (by have c0 := hS.cell d; simp only [c0, Result.andThen]; rfl), hK _ _ ?_⟩; clear hK Ko)
            | ((simp only [q1, q2]))
        refine Ord.done ?_
        have KN := hid_of (KH.out.trans ((Kept.refl wr).drewN 1))
        go_wp2
        go_ret
        exact ⟨KN.out, .inr ⟨P.out, rfl⟩⟩
      have q2 : decide (e ≤ x) = false := decide_eq_false hxe
      by_cases h0 : k = 0
      · have z := ZERO.out h0
        have P := hid_of (HIT.out ⟨by rw [z]; omega, by omega⟩)
        have q3 : decide ((0 : Int) < (k : Int)) = false := decide_eq_false (by omega)
        have q3' : decide (0 < k) = false := decide_eq_false (by omega)
        clear HIT MISS LST NN dp ZERO z h0
        go_upto_region 4 with fail
        refine Ord.region [(0, 0), (1, 0), (2, 0), (3, 1), (4, 0), (5, 0), (6, 0), (7, 0), (8, 0), (9, 1), (10, 0), (11, 0), (12, 0), (13, 0), (14, 0), (15, 0), (16, 0), (17, 0), (18, 0), (19, 0), (20, 1), (21, 0), (22, 0), (23, 0), (24, 0), (25, 1), (26, 0), (27, 0), (28, 0)] (fun w' => Kept wr w') (by kernel_rfl) (by kernel_rfl) (by kernel_rfl) (by kernel_rfl) (fun _ _ d _ _ h => by cases d <;> exact h) ((Kept.refl _).drewN _) ?_
        repeat
          refine Ord.step rfl (fun Ko hK => ?_)
          simp only [Ord.body]
          go_simp
          first
            | (refine hK _ _ ?_; clear hK Ko)
            | (refine ⟨_, fun w' hS => (by have c0 := hS.cell d; simp only [c0, Result.andThen]; rfl), hK _ _ ?_⟩; clear hK Ko)
            | ((simp only [q1, q2, q3, q3']))
        refine Ord.done ?_
        have KN := hid_of (KH.out.trans ((Kept.refl wr).drewN 1))
        go_wp2_with fail
        go_roundw
        case rel => exact ⟨k + 1, by omega, by go_num, KN.out, P.out⟩
        case measure => simp [intOf]; omega
      have kpos : 0 < k := by omega
      have l := LST.out kpos
      have dpp := dp kpos
      have q3 : decide ((0 : Int) < (k : Int)) = true := decide_eq_true (by omega)
      have q3' : decide (0 < k) = true := decide_eq_true (by omega)
      clear h0
      have WR : IntKind.i64.wrap ((k : Int) - 1) = ((k - 1 : Nat) : Int) := by rw [wrap_id (by omega) (by omega)]; omega
      have hkl : ((k - 1 : Nat) : Int) < (L : Int) := by omega
      rw [l] at HIT MISS
      generalize zAt c (k - 1) = y at dpp HIT MISS
      by_cases hyx : x ≤ y
      · have P := hid_of (MISS.out (by omega))
        have q4 : decide (x ≤ y) = true := decide_eq_true hyx
        clear HIT MISS LST NN dp ZERO l
        go_upto_region 4 with fail
        refine Ord.region [(0, 0), (1, 0), (2, 0), (3, 1), (4, 0), (5, 0), (6, 0), (7, 0), (8, 0), (9, 1), (10, 0), (11, 0), (12, 0), (13, 0), (14, 0), (15, 0), (16, 0), (17, 0), (18, 0), (19, 0), (20, 1), (21, 0), (22, 0), (23, 0), (24, 0), (25, 1), (26, 0), (27, 0), (28, 0)] (fun w' => Kept wr w') (by kernel_rfl) (by kernel_rfl) (by kernel_rfl) (by kernel_rfl) (fun _ _ d _ _ h => by cases d <;> exact h) ((Kept.refl _).drewN _) ?_
        repeat
          refine Ord.step rfl (fun Ko hK => ?_)
          simp only [Ord.body]
          go_simp
          first
            | (refine hK _ _ ?_; clear hK Ko)
            | (refine ⟨_, fun w' hS => (by have c0 := hS.cell d; have c1 := hS.cell dpp; simp only [c0, c1, Result.andThen]; rfl), hK _ _ ?_⟩; clear hK Ko)
            | ((simp only [q1, q2, q3, q3', q4, WR]))
        refine Ord.done ?_
        have KN := hid_of (KH.out.trans ((Kept.refl wr).drewN 1))
        go_wp2
        go_ret
        exact ⟨KN.out, .inr ⟨P.out, rfl⟩⟩
      · have P := hid_of (HIT.out ⟨by omega, by omega⟩)
        have q4 : decide (x ≤ y) = false := decide_eq_false hyx
        clear HIT MISS LST NN dp ZERO l
        go_upto_region 4 with fail
        refine Ord.region [(0, 0), (1, 0), (2, 0), (3, 1), (4, 0), (5, 0), (6, 0), (7, 0), (8, 0), (9, 1), (10, 0), (11, 0), (12, 0), (13, 0), (14, 0), (15, 0), (16, 0), (17, 0), (18, 0), (19, 0), (20, 1), (21, 0), (22, 0), (23, 0), (24, 0), (25, 1), (26, 0), (27, 0), (28, 0)] (fun w' => Kept wr w') (by kernel_rfl) (by kernel_rfl) (by kernel_rfl) (by kernel_rfl) (fun _ _ d _ _ h => by cases d <;> exact h) ((Kept.refl _).drewN _) ?_
        repeat
          refine Ord.step rfl (fun Ko hK => ?_)
          simp only [Ord.body]
          go_simp
          first
            | (refine hK _ _ ?_; clear hK Ko)
            | (refine ⟨_, fun w' hS => (by have c0 := hS.cell d; have c1 := hS.cell dpp; simp only [c0, c1, Result.andThen]; rfl), hK _ _ ?_⟩; clear hK Ko)
            | ((simp only [q1, q2, q3, q3', q4, WR]))
        refine Ord.done ?_
        have KN := hid_of (KH.out.trans ((Kept.refl wr).drewN 1))
        go_wp2_with fail
        go_roundw
        case rel => exact ⟨k + 1, by omega, by go_num, KN.out, P.out⟩
        case measure => simp [intOf]; omega
    · obtain rfl : k = L := by omega
      clear K
      go_wp2
      go_ret
      exact ⟨KH.out, .inl ⟨HNO.out, rfl⟩⟩
end Go.Proofs.YtkpfnkpkmbfajaaDoor
