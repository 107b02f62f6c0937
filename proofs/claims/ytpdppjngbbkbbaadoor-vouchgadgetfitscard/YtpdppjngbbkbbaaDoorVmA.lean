/- One text of VqE, VqF, VqG, VqH, VqI, VqJ, VqK, VqQ. -/
import Derived.Test.YtpdppjngbbkbbaaDoorVpD
import Derived.Test.YtpdppjngbbkbbaaDoorVpF
namespace Go.Proofs.YtpdppjngbbkbbaaDoor
open Go.RowKit

theorem rise_step {c : List Int} {e : Int} {k : Nat} (h : RiseTo c e k) (hk : lastOf c k < zAt c k ∧ zAt c k < e) : RiseTo c e (k + 1) := fun j hj => by
  by_cases t : j = k
  · subst t; exact hk
  · exact h j (by omega)

set_option maxRecDepth 100000 in
set_option linter.unusedSimpArgs false in
set_option maxHeartbeats 4000000 in
theorem risingR_calls (co : Option Addr) (L cc : Nat) (c : List Int) (e : Int) (w : World) (hJ : JRow w co L cc c) :
    Calls Tryd.prog 54 #[.slice co L cc, .int .i64 e] w fun r w' => Kept w w' ∧ ((RiseTo c e L ∧ r = .returned (.bool true)) ∨ (¬ RiseTo c e L ∧ r = .returned (.bool false))) := by
  have hr2 := hJ.room
  have hm2 := hJ.most
  unfold maxLen at hm2
  have HJ := hid_of hJ
  clear hJ
  go_enter Tryd.func54, Tryd.ntmps54
  go_wp2_with fail
  go_loopw [5] (fun i wr => ∃ (k : Nat), k ≤ L ∧ i = .int .i64 k ∧ Kept w wr ∧ RiseTo c e k) (fun i _ => L - (intOf i).toNat)
  case atStart => exact ⟨0, by omega, rfl, Kept.refl _, fun i hi => by omega⟩
  case round =>
    obtain ⟨k, hk, rfl, K, hno⟩ := hrel
    have HNO := hid_of hno
    have KH := hid_of K
    clear hno
    by_cases hgo : (k : Int) < (L : Int)
    · obtain ⟨b, off, rfl, hc⟩ := (HJ.out.kept K).at (by omega)
      have d := hc k (by omega)
      have HIT := hid_of (rise_step (e := e) HNO.out)
      have MISS : Hid (¬ (lastOf c k < zAt c k ∧ zAt c k < e) → ¬ RiseTo c e L) := fun hb t => hb (t k (by omega))
      have LST : Hid (0 < k → lastOf c k = zAt c (k - 1)) := fun h0 => by
        obtain ⟨j, rfl⟩ : ∃ j, k = j + 1 := ⟨k - 1, by omega⟩
        rfl
      have NN : Hid (-1 ≤ lastOf c k) := by
        show -1 ≤ lastOf c k
        cases k with
        | zero => exact Int.le_refl _
        | succ j => have := HNO.out.nonneg j (by omega); show -1 ≤ zAt c j; omega
      have dp : 0 < k → wr.cell? ⟨b, off + (k - 1), none⟩ = some (.int .i64 (zAt c (k - 1))) := fun h0 => hc (k - 1) (by omega)
      have ZERO : Hid (k = 0 → lastOf c k = -1) := fun h0 => by subst h0; rfl
      generalize zAt c k = x at d HIT MISS
      clear hc
      by_cases hx : x < 0
      · have P := hid_of (MISS.out (by have := NN.out; omega))
        have q1 : decide (x < 0) = true := decide_eq_true hx
        clear HIT MISS LST NN dp ZERO
        go_upto_region 4 with fail
        refine Ord.region [(0, 0), (1, 0), (2, 0), (3, 1), (4, 0), (5, 0), (6, 0), (7, 0), (8, 0), (9, 1), (10, 0), (11, 0), (12, 0), (13, 0), (14, 0), (15, 0), (16, 0), (17, 0), (18, 0), (19, 0), (20, 1), (21, 0), (22, 0), (23, 0), (24, 0), (25, 1), (26, 0), (27, 0), (28, 0)] (fun w' => Kept wr w') (by kernel_rfl) (by kernel_rfl) (by kernel_rfl) (by kernel_rfl) (fun _ _ d _ _ h => by cases d <;> exact h) ((Kept.refl _).drewN _) ?_
        repeat
          refine Ord.step rfl (fun Ko hK => ?_)
          simp only [Ord.body]
          go_simp
          first
            | (refine hK _ _ ?_; clear hK Ko)
            | (refine ⟨_, fun w' hS => (by have c0 := hS.cell d; simp only [c0, Result.andThen]; rfl), hK _ _ ?_⟩; clear hK Ko)
            | ((simp only [q1]))
        refine Ord.done ?_
        have KN := hid_of (KH.out.trans ((Kept.refl wr).drewN 1))
        go_wp2
        go_ret
        exact ⟨KN.out, .inr ⟨P.out, rfl⟩⟩
      have q1 : decide (x < 0) = false := decide_eq_false hx
      by_cases hxe : e ≤ x
      · have P := hid_of (MISS.out (by omega))
        have q2 : decide (e ≤ x) = true := decide_eq_true hxe
        clear HIT MISS LST NN dp ZERO
        go_upto_region 4 with fail
        refine Ord.region [(0, 0), (1, 0), (2, 0), (3, 1), (4, 0), (5, 0), (6, 0), (7, 0), (8, 0), (9, 1), (10, 0), (11, 0), (12, 0), (13, 0), (14, 0), (15, 0), (16, 0), (17, 0), (18, 0), (19, 0), (20, 1), (21, 0), (22, 0), (23, 0), (24, 0), (25, 1), (26, 0), (27, 0), (28, 0)] (fun w' => Kept wr w') (by kernel_rfl) (by kernel_rfl) (by kernel_rfl) (by kernel_rfl) (fun _ _ d _ _ h => by cases d <;> exact h) ((Kept.refl _).drewN _) ?_
        repeat
          refine Ord.step rfl (fun Ko hK => ?_)
          simp only [Ord.body]
          go_simp
          first
            | (refine hK _ _ ?_; clear hK Ko)
            | (refine ⟨_, fun w' hS => (by have c0 := hS.cell d; simp only [c0, Result.andThen]; rfl), hK _ _ ?_⟩; clear hK Ko)
            | ((simp only [q1, q2]))
        refine Ord.done ?_
        have KN := hid_of (KH.out.trans ((Kept.refl wr).drewN 1))
        go_wp2
        go_ret
        exact ⟨KN.out, .inr ⟨P.out, rfl⟩⟩
      have q2 : decide (e ≤ x) = false := decide_eq_false hxe
      by_cases h0 : k = 0
      · have z := ZERO.out h0
        have P := hid_of (HIT.out ⟨by rw [z]; omega, by omega⟩)
        have q3 : decide ((0 : Int) < (k : Int)) = false := decide_eq_false (by omega)
        have q3' : decide (0 < k) = false := decide_eq_false (by omega)
        clear HIT MISS LST NN dp ZERO z h0
        go_upto_region 4 with fail
        refine Ord.region [(0, 0), (1, 0), (2, 0), (3, 1), (4, 0), (5, 0), (6, 0), (7, 0), (8, 0), (9, 1), (10, 0), (11, 0), (12, 0), (13, 0), (14, 0), (15, 0), (16, 0), (17, 0), (18, 0), (19, 0), (20, 1), (21, 0), (22, 0), (23, 0), (24, 0), (25, 1), (26, 0), (27, 0), (28, 0)] (fun w' => Kept wr w') (by kernel_rfl) (by kernel_rfl) (by kernel_rfl) (by kernel_rfl) (fun _ _ d _ _ h => by cases d <;> exact h) ((Kept.refl _).drewN _) ?_
        repeat
          refine Ord.step rfl (fun Ko hK => ?_)
          simp only [Ord.body]
          go_simp
          first
            | (refine hK _ _ ?_; clear hK Ko)
            | (refine ⟨_, fun w' hS => (by have c0 := hS.cell d; simp only [c0, Result.andThen]; rfl), hK _ _ ?_⟩; clear hK Ko)
            | ((simp only [q1, q2, q3, q3']))
        refine Ord.done ?_
        have KN := hid_of (KH.out.trans ((Kept.refl wr).drewN 1))
        go_wp2_with fail
        go_roundw
        case rel => exact ⟨k + 1, by omega, by go_num, KN.out, P.out⟩
        case measure => simp [intOf]; omega
      have kpos : 0 < k := by omega
      have l := LST.out kpos
      have dpp := dp kpos
      have q3 : decide ((0 : Int) < (k : Int)) = true := decide_eq_true (by omega)
      have q3' : decide (0 < k) = true := decide_eq_true (by omega)
      clear h0
      have WR : IntKind.i64.wrap ((k : Int) - 1) = ((k - 1 : Nat) : Int) := by rw [wrap_id (by omega) (by omega)]; omega
      have hkl : ((k - 1 : Nat) : Int) < (L : Int) := by omega
      rw [l] at HIT MISS
      generalize zAt c (k - 1) = y at dpp HIT MISS
      by_cases hyx : x ≤ y
      · have P := hid_of (MISS.out (by omega))
        have q4 : decide (x ≤ y) = true := decide_eq_true hyx
        clear HIT MISS LST NN dp ZERO l
        go_upto_region 4 with fail
        refine Ord.region [(0, 0), (1, 0), (2, 0), (3, 1), (4, 0), (5, 0), (6, 0), (7, 0), (8, 0), (9, 1), (10, 0), (11, 0), (12, 0), (13, 0), (14, 0), (15, 0), (16, 0), (17, 0), (18, 0), (19, 0), (20, 1), (21, 0), (22, 0), (23, 0), (24, 0), (25, 1), (26, 0), (27, 0), (28, 0)] (fun w' => Kept wr w') (by kernel_rfl) (by kernel_rfl) (by kernel_rfl) (by kernel_rfl) (fun _ _ d _ _ h => by cases d <;> exact h) ((Kept.refl _).drewN _) ?_
        repeat
          refine Ord.step rfl (fun Ko hK => ?_)
          simp only [Ord.body]
          go_simp
          first
            | (refine hK _ _ ?_; clear hK Ko)
            | (refine ⟨_, fun w' hS => (by have c0 := hS.cell d; have c1 := hS.cell dpp; simp only [c0, c1, Result.andThen]; rfl), hK _ _ ?_⟩; clear hK Ko)
            | ((simp only [q1, q2, q3, q3', q4, WR]))
        refine Ord.done ?_
        have KN := hid_of (KH.out.trans ((Kept.refl wr).drewN 1))
        go_wp2
        go_ret
        exact ⟨KN.out, .inr ⟨P.out, rfl⟩⟩
      · have P := hid_of (HIT.out ⟨by omega, by omega⟩)
        have q4 : decide (x ≤ y) = false := decide_eq_false hyx
        clear HIT MISS LST NN dp ZERO l
        go_upto_region 4 with fail
        refine Ord.region [(0, 0), (1, 0), (2, 0), (3, 1), (4, 0), (5, 0), (6, 0), (7, 0), (8, 0), (9, 1), (10, 0), (11, 0), (12, 0), (13, 0), (14, 0), (15, 0), (16, 0), (17, 0), (18, 0), (19, 0), (20, 1), (21, 0), (22, 0), (23, 0), (24, 0), (25, 1), (26, 0), (27, 0), (28, 0)] (fun w' => Kept wr w') (by kernel_rfl) (by kernel_rfl) (by kernel_rfl) (by kernel_rfl) (fun _ _ d _ _ h => by cases d <;> exact h) ((Kept.refl _).drewN _) ?_
        repeat
          refine Ord.step rfl (fun Ko hK => ?_)
          simp only [Ord.body]
          go_simp
          first
            | (refine hK _ _ ?_; clear hK Ko)
            | (refine ⟨_, fun w' hS => (by have c0 := hS.cell d; have c1 := hS.cell dpp; simp only [c0, c1, Result.andThen]; rfl), hK _ _ ?_⟩; clear hK Ko)
            | ((simp only [q1, q2, q3, q3', q4, WR]))
        refine Ord.done ?_
        have KN := hid_of (KH.out.trans ((Kept.refl wr).drewN 1))
        go_wp2_with fail
        go_roundw
        case rel => exact ⟨k + 1, by omega, by go_num, KN.out, P.out⟩
        case measure => simp [intOf]; omega
    · obtain rfl : k = L := by omega
      clear K
      go_wp2
      go_ret
      exact ⟨KH.out, .inl ⟨HNO.out, rfl⟩⟩
end Go.Proofs.YtpdppjngbbkbbaaDoor
namespace Go.Proofs.YtpdppjngbbkbbaaDoor
open Go.RowKit

set_option maxRecDepth 100000 in
set_option linter.unusedSimpArgs false in
set_option maxHeartbeats 4000000 in
theorem atR_calls (nodes : Int) (ao : Option Addr) (n cap : Nat) (es : List Ed) (co : Option Addr) (L cc : Nat) (c : List Int) (v : Nat) (w : World) (h : ERow w ao n cap es) (hJ : JRow w co L cc c) (hr : ∀ j, j < L → 0 ≤ zAt c j ∧ zAt c j < (n : Int)) (hL : L ≤ 4096) :
    Calls Tryd.prog 88 #[.agg #[.int .i64 nodes, .slice ao n cap], .slice co L cc, .int .i64 (v : Int)] w fun r w' => r = .returned (.int .i64 (takTo es c L v)) ∧ Kept w w' := by
  have hr1 := h.room
  have hm1 := h.most
  have hr2 := hJ.room
  have hm2 := hJ.most
  unfold maxLen at hm1 hm2
  have KW : Kept w (w.alloc (Obj.cells #[.int .i64 nodes, .slice ao n cap] 24)) := (Kept.refl w).alloc _
  have w1 : (w.alloc (Obj.cells #[.int .i64 nodes, .slice ao n cap] 24)).cell? ⟨w.heap.size, 1, none⟩ = some (.slice ao n cap) := by simp [go_sem]
  have HE := hid_of h
  have HJ := hid_of hJ
  have HR := hid_of hr
  clear h hJ hr
  go_enter Tryd.func88, Tryd.ntmps88
  go_wp2_with fail
  generalize w.alloc (Obj.cells #[.int .i64 nodes, .slice ao n cap] 24) = W1 at KW w1 ⊢
  have W1H := hid_of w1
  have KWH := hid_of KW
  clear KW w1
  go_loopw [7, 8] (fun s i wr => ∃ (k : Nat), k ≤ L ∧ i = .int .i64 k ∧ s = .int .i64 (takTo es c k v) ∧ Kept W1 wr) (fun _ i _ => L - (intOf i).toNat)
  case atStart => exact ⟨0, by omega, rfl, rfl, Kept.refl _⟩
  case round =>
    obtain ⟨k, hk, rfl, rfl, K⟩ := hrel
    have w1 := K.cell W1H.out
    have KH := hid_of K
    by_cases hgo : (k : Int) < (L : Int)
    · obtain ⟨b, off, rfl, hc⟩ := (HJ.out.kept (KWH.out.trans K)).at (by omega)
      have d := hc k (by omega)
      obtain ⟨y1, y2⟩ := HR.out k (by omega)
      obtain ⟨y, hy⟩ : ∃ y : Nat, zAt c k = (y : Int) := ⟨(zAt c k).toNat, by omega⟩
      have hyn : y < n := by omega
      obtain ⟨b2, off2, rfl, hc2⟩ := (HE.out.kept (KWH.out.trans K)).cell (by omega)
      obtain ⟨d1, d2, d3, d4⟩ := hc2 y hyn
      have SU := hid_of (takTo_succ es c k v)
      obtain ⟨t1, t2⟩ := takTo_bd es c k v
      have FF : Hid (frm es c k = (edAt es y).f) := by
        show frm es c k = _
        unfold frm
        rw [hy, Int.toNat_natCast]
      have TT : Hid (tto es c k = (edAt es y).t) := by
        show tto es c k = _
        unfold tto
        rw [hy, Int.toNat_natCast]
      rw [FF.out, TT.out] at SU
      rw [hy] at d y2
      generalize takTo es c k v = cnt at SU t1 t2 ⊢
      generalize (edAt es y).f = f at d1 SU
      generalize (edAt es y).t = t at d2 SU
      have WA : IntKind.i64.wrap (cnt + 1) = cnt + 1 := wrap_id (by omega) (by omega)
      have WB : IntKind.i64.wrap (cnt + 1 + 1) = cnt + 1 + 1 := wrap_id (by omega) (by omega)
      clear hc hc2 d3 d4 hy y1 FF TT K
      have D5 := hid_of w1
      have D6 := hid_of d
      have D7 := hid_of d2
      by_cases hf : f = (v : Int)
      · have q1 : (f == (v : Int)) = true := by rw [beq_iff_eq]; exact hf
        go_wp2_with fail
        refine Ord.region [(0, 0), (1, 1), (2, 0), (3, 0), (4, 0), (5, 1), (6, 0), (7, 0), (8, 1), (9, 0), (10, 0)] (fun w' => Kept wr w') (by kernel_rfl) (by kernel_rfl) (by kernel_rfl) (by kernel_rfl) (fun _ _ d _ _ h => by cases d <;> exact h) ((Kept.refl _).drewN _) ?_
        repeat
          refine Ord.step rfl (fun Ko hK => ?_)
          simp only [Ord.body]
          go_simp
          first
            | (refine hK _ _ ?_; clear hK Ko)
            | (refine ⟨_, fun w' hS => (by have c0 := hS.cell w1; have c1 := hS.cell d; have c2 := hS.cell d1; simp only [c0, c1, c2, Result.andThen]; rfl), hK _ _ ?_⟩; clear hK Ko)
            | ((simp only [q1]))
        refine Ord.done ?_
        have w1 := ((Kept.refl wr).drewN 1).cell D5.out
        have d := ((Kept.refl wr).drewN 1).cell D6.out
        have d2 := ((Kept.refl wr).drewN 1).cell D7.out
        by_cases ht : t = (v : Int)
        · have q2 : (t == (v : Int)) = true := by rw [beq_iff_eq]; exact ht
          have E : Hid (takTo es c (k + 1) v = cnt + 1 + 1) := by
            show takTo es c (k + 1) v = _
            rw [SU.out, if_pos hf, if_pos ht]
          go_wp2_with fail
          refine Ord.region [(0, 0), (1, 1), (2, 0), (3, 0), (4, 0), (5, 1), (6, 0), (7, 0), (8, 1), (9, 0), (10, 0)] (fun w' => Kept wr w') (by kernel_rfl) (by kernel_rfl) (by kernel_rfl) (by kernel_rfl) (fun _ _ d _ _ h => by cases d <;> exact h) (((Kept.refl _).drewN _).drewN _) ?_
          repeat
            refine Ord.step rfl (fun Ko hK => ?_)
            simp only [Ord.body]
            go_simp
            first
              | (refine hK _ _ ?_; clear hK Ko)
              | (refine ⟨_, fun w' hS => (by have c0 := hS.cell w1; have c1 := hS.cell d; have c2 := hS.cell d2; simp only [c0, c1, c2, Result.andThen]; rfl), hK _ _ ?_⟩; clear hK Ko)
              | ((simp only [q2]))
          refine Ord.done ?_
          have KN := hid_of (KH.out.trans (((Kept.refl wr).drewN 1).drewN 1))
          go_wp2_with fail
          go_roundw
          case rel => exact ⟨k + 1, by omega, by go_num, by rw [E.out], KN.out⟩
          case measure => simp [intOf]; omega
        · have q2 : (t == (v : Int)) = false := by rw [beq_eq_false_iff_ne]; exact ht
          have E : Hid (takTo es c (k + 1) v = cnt + 1) := by
            show takTo es c (k + 1) v = _
            rw [SU.out, if_pos hf, if_neg ht]; omega
          go_wp2_with fail
          refine Ord.region [(0, 0), (1, 1), (2, 0), (3, 0), (4, 0), (5, 1), (6, 0), (7, 0), (8, 1), (9, 0), (10, 0)] (fun w' => Kept wr w') (by kernel_rfl) (by kernel_rfl) (by kernel_rfl) (by kernel_rfl) (fun _ _ d _ _ h => by cases d <;> exact h) (((Kept.refl _).drewN _).drewN _) ?_
          repeat
            refine Ord.step rfl (fun Ko hK => ?_)
            simp only [Ord.body]
            go_simp
            first
              | (refine hK _ _ ?_; clear hK Ko)
              | (refine ⟨_, fun w' hS => (by have c0 := hS.cell w1; have c1 := hS.cell d; have c2 := hS.cell d2; simp only [c0, c1, c2, Result.andThen]; rfl), hK _ _ ?_⟩; clear hK Ko)
              | ((simp only [q2]))
          refine Ord.done ?_
          have KN := hid_of (KH.out.trans (((Kept.refl wr).drewN 1).drewN 1))
          go_wp2_with fail
          go_roundw
          case rel => exact ⟨k + 1, by omega, by go_num, by rw [E.out], KN.out⟩
          case measure => simp [intOf]; omega
      · have q1 : (f == (v : Int)) = false := by rw [beq_eq_false_iff_ne]; exact hf
        go_wp2_with fail
        refine Ord.region [(0, 0), (1, 1), (2, 0), (3, 0), (4, 0), (5, 1), (6, 0), (7, 0), (8, 1), (9, 0), (10, 0)] (fun w' => Kept wr w') (by kernel_rfl) (by kernel_rfl) (by kernel_rfl) (by kernel_rfl) (fun _ _ d _ _ h => by cases d <;> exact h) ((Kept.refl _).drewN _) ?_
        repeat
          refine Ord.step rfl (fun Ko hK => ?_)
          simp only [Ord.body]
          go_simp
          first
            | (refine hK _ _ ?_; clear hK Ko)
            | (refine ⟨_, fun w' hS => (by have c0 := hS.cell w1; have c1 := hS.cell d; have c2 := hS.cell d1; simp only [c0, c1, c2, Result.andThen]; rfl), hK _ _ ?_⟩; clear hK Ko)
            | ((simp only [q1]))
        refine Ord.done ?_
        have w1 := ((Kept.refl wr).drewN 1).cell D5.out
        have d := ((Kept.refl wr).drewN 1).cell D6.out
        have d2 := ((Kept.refl wr).drewN 1).cell D7.out
        by_cases ht : t = (v : Int)
        · have q2 : (t == (v : Int)) = true := by rw [beq_iff_eq]; exact ht
          have E : Hid (takTo es c (k + 1) v = cnt + 1) := by
            show takTo es c (k + 1) v = _
            rw [SU.out, if_neg hf, if_pos ht]; omega
          go_wp2_with fail
          refine Ord.region [(0, 0), (1, 1), (2, 0), (3, 0), (4, 0), (5, 1), (6, 0), (7, 0), (8, 1), (9, 0), (10, 0)] (fun w' => Kept wr w') (by kernel_rfl) (by kernel_rfl) (by kernel_rfl) (by kernel_rfl) (fun _ _ d _ _ h => by cases d <;> exact h) (((Kept.refl _).drewN _).drewN _) ?_
          repeat
            refine Ord.step rfl (fun Ko hK => ?_)
            simp only [Ord.body]
            go_simp
            first
              | (refine hK _ _ ?_; clear hK Ko)
              | (refine ⟨_, fun w' hS => (by have c0 := hS.cell w1; have c1 := hS.cell d; have c2 := hS.cell d2; simp only [c0, c1, c2, Result.andThen]; rfl), hK _ _ ?_⟩; clear hK Ko)
              | ((simp only [q2]))
          refine Ord.done ?_
          have KN := hid_of (KH.out.trans (((Kept.refl wr).drewN 1).drewN 1))
          go_wp2_with fail
          go_roundw
          case rel => exact ⟨k + 1, by omega, by go_num, by rw [E.out], KN.out⟩
          case measure => simp [intOf]; omega
        · have q2 : (t == (v : Int)) = false := by rw [beq_eq_false_iff_ne]; exact ht
          have E : Hid (takTo es c (k + 1) v = cnt) := by
            show takTo es c (k + 1) v = _
            rw [SU.out, if_neg hf, if_neg ht]; omega
          go_wp2_with fail
          refine Ord.region [(0, 0), (1, 1), (2, 0), (3, 0), (4, 0), (5, 1), (6, 0), (7, 0), (8, 1), (9, 0), (10, 0)] (fun w' => Kept wr w') (by kernel_rfl) (by kernel_rfl) (by kernel_rfl) (by kernel_rfl) (fun _ _ d _ _ h => by cases d <;> exact h) (((Kept.refl _).drewN _).drewN _) ?_
          repeat
            refine Ord.step rfl (fun Ko hK => ?_)
            simp only [Ord.body]
            go_simp
            first
              | (refine hK _ _ ?_; clear hK Ko)
              | (refine ⟨_, fun w' hS => (by have c0 := hS.cell w1; have c1 := hS.cell d; have c2 := hS.cell d2; simp only [c0, c1, c2, Result.andThen]; rfl), hK _ _ ?_⟩; clear hK Ko)
              | ((simp only [q2]))
          refine Ord.done ?_
          have KN := hid_of (KH.out.trans (((Kept.refl wr).drewN 1).drewN 1))
          go_wp2_with fail
          go_roundw
          case rel => exact ⟨k + 1, by omega, by go_num, by rw [E.out], KN.out⟩
          case measure => simp [intOf]; omega
    · obtain rfl : k = L := by omega
      clear K
      go_wp2
      go_ret
      exact ⟨rfl, KWH.out.trans KH.out⟩
end Go.Proofs.YtpdppjngbbkbbaaDoor
namespace Go.Proofs.YtpdppjngbbkbbaaDoor
open Go.RowKit

set_option maxRecDepth 100000 in
set_option linter.unusedSimpArgs false in
set_option maxHeartbeats 4000000 in
theorem takenR_calls (N : Nat) (ao : Option Addr) (n cap : Nat) (es : List Ed) (co : Option Addr) (L cc : Nat) (c : List Int) (bo : Option Addr) (bc : Nat) (b : List Int) (w : World) (h : ERow w ao n cap es) (hJ : JRow w co L cc c) (hB : JRow w bo N bc b) (RG : Right N n es) :
    Calls Tryd.prog 38 #[.agg #[.int .i64 (N : Int), .slice ao n cap], .slice co L cc, .slice bo N bc] w fun r w' => Kept w w' ∧ ((TakOk es n N b c L ∧ r = .returned (.bool true)) ∨ (¬ TakOk es n N b c L ∧ r = .returned (.bool false))) := by
  have hN := RG.nodes
  have hn := RG.edges
  have hr1 := h.room
  have hm1 := h.most
  have hr2 := hJ.room
  have hm2 := hJ.most
  have hr3 := hB.room
  have hm3 := hB.most
  unfold maxLen at hm1 hm2 hm3
  have KW : Kept w (w.alloc (Obj.cells #[.int .i64 (N : Int), .slice ao n cap] 24)) := (Kept.refl w).alloc _
  have w0 : (w.alloc (Obj.cells #[.int .i64 (N : Int), .slice ao n cap] 24)).cell? ⟨w.heap.size, 0, none⟩ = some (.int .i64 (N : Int)) := by simp [go_sem]
  have w1 : (w.alloc (Obj.cells #[.int .i64 (N : Int), .slice ao n cap] 24)).cell? ⟨w.heap.size, 1, none⟩ = some (.slice ao n cap) := by simp [go_sem]
  have HE := hid_of h
  have HJ := hid_of hJ
  have HB := hid_of hB
  have RGH := hid_of RG
  clear h hJ hB RG
  have hnot : ∀ (x : Bool) (w : World), (Op.unary .not (.bool x)).run Tryd.prog w = .ok (.bool (!x)) w := fun _ _ => rfl
  go_enter Tryd.func38, Tryd.ntmps38
  go_wp2_with fail
  generalize w.alloc (Obj.cells #[.int .i64 (N : Int), .slice ao n cap] 24) = W1 at KW w0 w1 ⊢
  refine (risingR_calls co L cc c (n : Int) W1 (HJ.out.kept KW)).mono ?_
  rintro e wa ⟨K1, ⟨ris, rfl⟩ | ⟨ris, rfl⟩⟩
  rotate_left
  · have HK := hid_of (KW.trans K1)
    clear w0 w1 K1 KW
    go_wp2
    go_ret
    exact ⟨HK.out, .inr ⟨fun t => ris t.1, rfl⟩⟩
  have W0H := hid_of (K1.cell w0)
  have W1H := hid_of (K1.cell w1)
  have KWH := hid_of (KW.trans K1)
  have RIS := hid_of ris
  have lmn : L ≤ 4096 := by have := ris.len_le; omega
  clear K1 KW w0 w1 ris
  go_wp2_with fail
  go_loopw [7] (fun i wr => ∃ (k : Nat), k ≤ L ∧ i = .int .i64 k ∧ Kept wa wr ∧ ∀ j, j < k → frm es c j ≠ tto es c j) (fun i _ => L - (intOf i).toNat)
  case atStart => exact ⟨0, by omega, rfl, Kept.refl _, fun i hi => by omega⟩
  case round =>
    obtain ⟨k, hk, rfl, K, hno⟩ := hrel
    have HNO := hid_of hno
    have KH := hid_of K
    have w1 := K.cell W1H.out
    clear hno
    by_cases hgo : (k : Int) < (L : Int)
    · obtain ⟨b1, off, rfl, hc⟩ := (HJ.out.kept (KWH.out.trans K)).at (by omega)
      have d := hc k (by omega)
      obtain ⟨y1, y2⟩ := RIS.out.rng (j := k) (by omega)
      obtain ⟨y, hy⟩ : ∃ y : Nat, zAt c k = (y : Int) := ⟨(zAt c k).toNat, by omega⟩
      have hyn : y < n := by omega
      obtain ⟨b2, off2, rfl, hc2⟩ := (HE.out.kept (KWH.out.trans K)).cell (by omega)
      obtain ⟨d1, d2, d3, d4⟩ := hc2 y hyn
      have FF : Hid (frm es c k = (edAt es y).f) := by
        show frm es c k = _
        unfold frm
        rw [hy, Int.toNat_natCast]
      have TT : Hid (tto es c k = (edAt es y).t) := by
        show tto es c k = _
        unfold tto
        rw [hy, Int.toNat_natCast]
      have HIT : Hid (frm es c k ≠ tto es c k → ∀ j, j < k + 1 → frm es c j ≠ tto es c j) := fun hb i hi => by
        by_cases e : i = k
        · subst e; exact hb
        · exact HNO.out i (by omega)
      have MISS : Hid (frm es c k = tto es c k → ¬ TakOk es n N b c L) := fun hb t => t.2.1 k (by omega) hb
      rw [FF.out, TT.out] at HIT MISS
      rw [hy] at d y2
      generalize (edAt es y).f = f at d1 HIT MISS
      generalize (edAt es y).t = t at d2 HIT MISS
      clear hc hc2 d3 d4 hy y1 FF TT K
      by_cases hft : f = t
      · have P := hid_of (MISS.out hft)
        have q1 : (f == t) = true := by rw [beq_iff_eq]; exact hft
        clear HIT MISS hft
        go_wp2_with fail
        refine Ord.region [(0, 0), (1, 1), (2, 0), (3, 0), (4, 0), (5, 1), (6, 0), (7, 0), (8, 1), (9, 0), (10, 1), (11, 0), (12, 0), (13, 0), (14, 1), (15, 0), (16, 0), (17, 1), (18, 0)] (fun w' => Kept wr w') (by kernel_rfl) (by kernel_rfl) (by kernel_rfl) (by kernel_rfl) (fun _ _ d _ _ h => by cases d <;> exact h) ((Kept.refl _).drewN _) ?_
        repeat
          refine Ord.step rfl (fun Ko hK => ?_)
          simp only [Ord.body]
          go_simp
          first
            | (refine hK _ _ ?_; clear hK Ko)
            | (refine ⟨_, fun w' hS => (by have c0 := hS.cell w1; have c1 := hS.cell d; have c2 := hS.cell d1; have c3 := hS.cell d2; simp only [c0, c1, c2, c3, Result.andThen]; rfl), hK _ _ ?_⟩; clear hK Ko)
            | ((simp only [q1]))
        refine Ord.done ?_
        have KN := hid_of (KWH.out.trans (KH.out.trans ((Kept.refl wr).drewN 1)))
        go_wp2
        go_ret
        exact ⟨KN.out, .inr ⟨P.out, rfl⟩⟩
      · have P := hid_of (HIT.out hft)
        have q1 : (f == t) = false := by rw [beq_eq_false_iff_ne]; exact hft
        clear HIT MISS
        go_wp2_with fail
        refine Ord.region [(0, 0), (1, 1), (2, 0), (3, 0), (4, 0), (5, 1), (6, 0), (7, 0), (8, 1), (9, 0), (10, 1), (11, 0), (12, 0), (13, 0), (14, 1), (15, 0), (16, 0), (17, 1), (18, 0)] (fun w' => Kept wr w') (by kernel_rfl) (by kernel_rfl) (by kernel_rfl) (by kernel_rfl) (fun _ _ d _ _ h => by cases d <;> exact h) ((Kept.refl _).drewN _) ?_
        repeat
          refine Ord.step rfl (fun Ko hK => ?_)
          simp only [Ord.body]
          go_simp
          first
            | (refine hK _ _ ?_; clear hK Ko)
            | (refine ⟨_, fun w' hS => (by have c0 := hS.cell w1; have c1 := hS.cell d; have c2 := hS.cell d1; have c3 := hS.cell d2; simp only [c0, c1, c2, c3, Result.andThen]; rfl), hK _ _ ?_⟩; clear hK Ko)
            | ((simp only [q1]))
        refine Ord.done ?_
        have KN := hid_of (KH.out.trans ((Kept.refl wr).drewN 1))
        go_wp2_with fail
        go_roundw
        case rel => exact ⟨k + 1, by omega, by go_num, KN.out, P.out⟩
        case measure => simp [intOf]; omega
    · obtain rfl : k = L := by omega
      clear K w1
      go_wp2_with fail
      go_loopw [8] (fun i w2 => ∃ (v : Nat), v ≤ N ∧ i = .int .i64 v ∧ Kept wa w2 ∧ ∀ j, j < v → takTo es c k j ≤ zAt b j) (fun i _ => N - (intOf i).toNat)
      case atStart => exact ⟨0, by omega, rfl, KH.out, fun i hi => by omega⟩
      case round =>
        obtain ⟨v, hv, rfl, K, hlt⟩ := hrel
        have HLT := hid_of hlt
        have K2 := hid_of K
        have w0 := K.cell W0H.out
        have w1 := K.cell W1H.out
        clear hlt
        by_cases hgo2 : (v : Int) < (N : Int)
        · obtain ⟨b5, off5, rfl, hc5⟩ := (HB.out.kept (KWH.out.trans K)).at (by omega)
          have d6 := hc5 v (by omega)
          have HIT : Hid (takTo es c k v ≤ zAt b v → ∀ j, j < v + 1 → takTo es c k j ≤ zAt b j) := fun hb i hi => by
            by_cases e : i = v
            · subst e; exact hb
            · exact HLT.out i (by omega)
          have MISS : Hid (¬ takTo es c k v ≤ zAt b v → ¬ TakOk es n N b c k) := fun hb t => hb (t.2.2 v (by omega))
          have AC := hid_of (fun w' (K' : Kept wa w') => atR_calls (N : Int) ao n cap es co k cc c v w' (HE.out.kept (KWH.out.trans K')) (HJ.out.kept (KWH.out.trans K')) (fun j hj => RIS.out.rng hj) lmn)
          generalize takTo es c k v = tk at HIT MISS AC
          generalize zAt b v = bv at d6 HIT MISS
          clear hc5 K
          by_cases hle : tk ≤ bv
          · have P := hid_of (HIT.out hle)
            have qd : decide (bv < tk) = false := decide_eq_false (by omega)
            clear HIT MISS
            go_wp2_with fail
            refine Ord.region [(0, 1), (1, 0), (2, 0), (4, 0), (5, 0), (6, 0), (7, 1), (3, 2), (8, 0)] (fun w' => Kept wr w') (by kernel_rfl) (by kernel_rfl) (by kernel_rfl) (by kernel_rfl) (fun _ _ d _ _ h => by cases d <;> exact h) ((Kept.refl _).drewN _) ?_
            repeat
              refine Ord.step rfl (fun Ko hK => ?_)
              simp only [Ord.body]
              go_simp
              first
                | (refine hK _ _ ?_; clear hK Ko)
                | (refine ⟨_, fun w' hS => (by have c0 := hS.cell w0; have c1 := hS.cell w1; have c2 := hS.cell d6; simp only [c0, c1, c2, Result.andThen]; rfl), hK _ _ ?_⟩; clear hK Ko)
                | (go_at_call 88; refine (AC.out _ (K2.out.trans ((Kept.refl _).drewN _))).mono ?_; rintro e w5 ⟨rfl, K5⟩; refine ⟨((Kept.refl _).drewN _).trans K5, hK _ _ ?_⟩; clear hK Ko)
                | ((simp only [qd]))
            refine Ord.done ?_
            have KN := hid_of (K2.out.trans (((Kept.refl wr).drewN 1).trans K5))
            clear K5
            go_wp2_with fail
            go_roundw
            case rel => exact ⟨v + 1, by omega, by go_num, KN.out, P.out⟩
            case measure => simp [intOf]; omega
          · have P := hid_of (MISS.out hle)
            have qd : decide (bv < tk) = true := decide_eq_true (by omega)
            clear HIT MISS
            go_wp2_with fail
            refine Ord.region [(0, 1), (1, 0), (2, 0), (4, 0), (5, 0), (6, 0), (7, 1), (3, 2), (8, 0)] (fun w' => Kept wr w') (by kernel_rfl) (by kernel_rfl) (by kernel_rfl) (by kernel_rfl) (fun _ _ d _ _ h => by cases d <;> exact h) ((Kept.refl _).drewN _) ?_
            repeat
              refine Ord.step rfl (fun Ko hK => ?_)
              simp only [Ord.body]
              go_simp
              first
                | (refine hK _ _ ?_; clear hK Ko)
                | (refine ⟨_, fun w' hS => (by have c0 := hS.cell w0; have c1 := hS.cell w1; have c2 := hS.cell d6; simp only [c0, c1, c2, Result.andThen]; rfl), hK _ _ ?_⟩; clear hK Ko)
                | (go_at_call 88; refine (AC.out _ (K2.out.trans ((Kept.refl _).drewN _))).mono ?_; rintro e w5 ⟨rfl, K5⟩; refine ⟨((Kept.refl _).drewN _).trans K5, hK _ _ ?_⟩; clear hK Ko)
                | ((simp only [qd]))
            refine Ord.done ?_
            have KN := hid_of (KWH.out.trans (K2.out.trans (((Kept.refl wr).drewN 1).trans K5)))
            clear K5
            go_wp2
            go_ret
            exact ⟨KN.out, .inr ⟨P.out, rfl⟩⟩
        · obtain rfl : v = N := by omega
          have KN := hid_of (KWH.out.trans K2.out)
          clear K w1
          go_wp2
          go_ret
          exact ⟨KN.out, .inl ⟨⟨RIS.out, HNO.out, HLT.out⟩, rfl⟩⟩
end Go.Proofs.YtpdppjngbbkbbaaDoor
namespace Go.Proofs.YtpdppjngbbkbbaaDoor
open Go.RowKit

def onesTo (n : Nat) : List Int := (List.range n).map fun _ => 1
theorem onesTo_at {n i : Nat} (h : i < n) : zAt (onesTo n) i = 1 := by simp [zAt, onesTo, List.getD, h]
theorem onesTo_len (n : Nat) : (onesTo n).length = n := by simp [onesTo]

set_option maxRecDepth 100000 in
set_option linter.unusedSimpArgs false in
set_option maxHeartbeats 4000000 in
theorem onesR_calls (N : Nat) (hN : N ≤ 1024) (s : Value) (w : World) :
    Calls Tryd.prog 97 #[.agg #[.int .i64 (N : Int), s]] w fun r w' => ∃ g, r = .returned (.slice (some ⟨g, 0, none⟩) N N) ∧ JRow w' (some ⟨g, 0, none⟩) N N (onesTo N) ∧ Kept w w' := by
  have hmk : ∀ w : World, (Instr.makeSlice 25 (.int .i64 (N : Int)) (.int .i64 (N : Int))).run Tryd.prog w = .ok (.slice (some ⟨w.heap.size, 0, none⟩) N N) (w.alloc (.cells (madeCells #[.int .i64 0] N) 3)) :=
    fun w => run_make_row' 25 3 (.int .i64 0) 8 Tryd.underlying25 infoJ0 rfl .i64 .i64 N (by omega) (by omega) w
  have KW : Kept w (w.alloc (Obj.cells #[.int .i64 (N : Int), s] 24)) := (Kept.refl w).alloc _
  have w0 : (w.alloc (Obj.cells #[.int .i64 (N : Int), s] 24)).cell? ⟨w.heap.size, 0, none⟩ = some (.int .i64 (N : Int)) := by simp [go_sem]
  go_enter Tryd.func97, Tryd.ntmps97
  go_upto_region 1 with fail
  generalize w.alloc (Obj.cells #[.int .i64 (N : Int), s] 24) = W1 at KW w0 ⊢
  have KM : Kept W1 (W1.alloc (.cells (madeCells #[.int .i64 0] N) 3)) := (Kept.refl W1).alloc _
  have I0 : IntsAt (W1.alloc (.cells (madeCells #[.int .i64 0] N) 3)) W1.heap.size N (fun v => if v < 0 then 1 else 0) := World.rowIs.congr (World.rowIs_made W1 (.int .i64 0) N 3) (fun i _ => by simp)
  obtain ⟨q, hq⟩ : ∃ q, W1.heap.size = q := ⟨_, rfl⟩
  have hwq : W1.heap.size ≤ q := by omega
  have W0H := hid_of w0
  rw [hq] at I0
  have HWQ := hid_of hwq
  have KWH := hid_of KW
  have KMH := hid_of KM
  have IH := hid_of I0
  go_upto_region 2 with fail
  generalize W1.alloc (.cells (madeCells #[.int .i64 0] N) 3) = W2 at KMH IH ⊢
  clear hmk KM I0 hq KW w0
  go_wp2_with fail
  go_loopw [4] (fun i wr => ∃ (k : Nat), k ≤ N ∧ i = .int .i64 k ∧ Kept W1 wr ∧ IntsAt wr q N (fun v => if v < k then 1 else 0)) (fun i _ => N - (intOf i).toNat)
  case atStart => exact ⟨0, by omega, rfl, KMH.out, IH.out⟩
  case round =>
    obtain ⟨k, hk, rfl, K, IR⟩ := hrel
    have IRH := hid_of IR
    have KH := hid_of K
    have w0 := K.cell W0H.out
    clear IR IH KMH
    by_cases hgo : (k : Int) < (N : Int)
    · have hkN : k < N := by omega
      have ck := IRH.out.cell hkN
      have fk := World.rowIs.frozen IRH.out k
      have IN : Hid (IntsAt (wr.setCell ⟨q, k, none⟩ (.int .i64 1)) q N (fun v => if v < k + 1 then 1 else 0)) := (IRH.out.set k 1).congr (fun v _ => by
        show Value.int .i64 (if v = k then 1 else if v < k then 1 else 0) = .int .i64 (if v < k + 1 then 1 else 0)
        by_cases e1 : v = k
        · subst e1; rw [if_pos rfl, if_pos (by omega)]
        · rw [if_neg e1]
          by_cases e2 : v < k
          · rw [if_pos e2, if_pos (by omega)]
          · rw [if_neg e2, if_neg (by omega)])
      have KN : Hid (Kept W1 (wr.setCell ⟨q, k, none⟩ (.int .i64 1))) := KH.out.setCell (p := ⟨q, k, none⟩) HWQ.out _
      clear K
      go_wp2_with fail
      go_roundw
      case rel => exact ⟨k + 1, by omega, by go_num, KN.out, IN.out⟩
      case measure => simp [intOf]; omega
    · obtain rfl : k = N := by omega
      have JF : Hid (JRow wr (some ⟨q, 0, none⟩) k k (onesTo k)) := ⟨by rw [onesTo_len], Nat.le_refl _, by unfold maxLen; omega, fun _ => ⟨q, 0, rfl, fun i hi => by
        have := IRH.out.cell hi
        simp only [hi, if_true] at this
        rw [Nat.zero_add, this]
        have e := onesTo_at hi
        unfold zAt at e
        rw [e]⟩⟩
      clear K
      go_wp2
      go_ret
      exact ⟨q, rfl, JF.out, KWH.out.trans KH.out⟩

/-- With one at each node at most, edges are a matching. -/
theorem tak_one {es : List Ed} {n N : Nat} {c : List Int} {L : Nat} (he : EndsIn es N n) : TakOk es n N (onesTo N) c L ↔ MatchOk es n c L := by
  have use : ∀ k v, usedTo es c k v = true ↔ 0 < takTo es c k v := by
    intro k
    induction k with
    | zero => intro v; simp [usedTo, takTo]
    | succ k ih =>
      intro v
      rw [usedTo_succ, takTo_succ]
      have i := ih v
      have b := (takTo_bd es c k v).1
      by_cases h1 : tto es c k = (v : Int)
      · rw [if_pos h1.symm, if_pos h1]
        constructor
        · intro _; split <;> omega
        · intro _; rfl
      · rw [if_neg (fun t => h1 t.symm), if_neg h1]
        by_cases h2 : frm es c k = (v : Int)
        · rw [if_pos h2.symm, if_pos h2]
          constructor
          · intro _; omega
          · intro _; rfl
        · rw [if_neg (fun t => h2 t.symm), if_neg h2, i]; omega
  have mono : ∀ v k j, takTo es c k v ≤ takTo es c (k + j) v := by
    intro v k j
    induction j with
    | zero => exact Int.le_refl _
    | succ j ih => rw [← Nat.add_assoc, takTo_succ]; split <;> split <;> omega
  constructor
  · rintro ⟨ris, apart, tk⟩
    refine ⟨ris, fun j hj => ?_⟩
    obtain ⟨r1, r2⟩ := ris.rng hj
    obtain ⟨e1, e2, e3, e4⟩ := he (zAt c j).toNat (by omega)
    have hf : frm es c j = ((frm es c j).toNat : Int) := by unfold frm; omega
    have ht : tto es c j = ((tto es c j).toNat : Int) := by unfold tto; omega
    refine ⟨apart j hj, ?_, ?_⟩
    · cases hu : usedTo es c j (frm es c j).toNat with
      | false => rfl
      | true =>
        have u := (use j _).1 hu
        have s := takTo_succ es c j (frm es c j).toNat
        rw [if_pos hf] at s
        have m := mono (frm es c j).toNat (j + 1) (L - (j + 1))
        rw [show j + 1 + (L - (j + 1)) = L by omega] at m
        have b := tk (frm es c j).toNat (by unfold frm; omega)
        rw [onesTo_at (by unfold frm; omega)] at b
        split at s <;> omega
    · cases hu : usedTo es c j (tto es c j).toNat with
      | false => rfl
      | true =>
        have u := (use j _).1 hu
        have s := takTo_succ es c j (tto es c j).toNat
        rw [if_pos ht] at s
        have m := mono (tto es c j).toNat (j + 1) (L - (j + 1))
        rw [show j + 1 + (L - (j + 1)) = L by omega] at m
        have b := tk (tto es c j).toNat (by unfold tto; omega)
        rw [onesTo_at (by unfold tto; omega)] at b
        split at s <;> omega
  · rintro ⟨ris, ap⟩
    refine ⟨ris, fun j hj => (ap j hj).1, fun v hv => ?_⟩
    rw [onesTo_at hv]
    have key : ∀ k, k ≤ L → takTo es c k v ≤ 1 := by
      intro k
      induction k with
      | zero => intro _; show (0 : Int) ≤ 1; omega
      | succ k ih =>
        intro hk
        have i := ih (by omega)
        obtain ⟨a1, a2, a3⟩ := ap k (by omega)
        rw [takTo_succ]
        have b := (takTo_bd es c k v).1
        by_cases h2 : frm es c k = (v : Int)
        · have h1 : ¬ tto es c k = (v : Int) := fun t => a1 (by rw [h2, t])
          rw [if_pos h2, if_neg h1]
          rw [h2, Int.toNat_natCast] at a2
          have : ¬ 0 < takTo es c k v := fun t => by rw [(use k v).2 t] at a2; cases a2
          omega
        · by_cases h1 : tto es c k = (v : Int)
          · rw [if_neg h2, if_pos h1]
            rw [h1, Int.toNat_natCast] at a3
            have : ¬ 0 < takTo es c k v := fun t => by rw [(use k v).2 t] at a3; cases a3
            omega
          · rw [if_neg h2, if_neg h1]; omega
    exact key L (Nat.le_refl _)
end Go.Proofs.YtpdppjngbbkbbaaDoor
namespace Go.Proofs.YtpdppjngbbkbbaaDoor
open Go.RowKit

set_option maxRecDepth 100000 in
set_option linter.unusedSimpArgs false in
set_option maxHeartbeats 4000000 in
theorem matchesR_calls (N : Nat) (ao : Option Addr) (n cap : Nat) (es : List Ed) (co : Option Addr) (L cc : Nat) (c : List Int) (w : World) (h : ERow w ao n cap es) (hJ : JRow w co L cc c) (RG : Right N n es) :
    Calls Tryd.prog 62 #[.agg #[.int .i64 (N : Int), .slice ao n cap], .slice co L cc] w fun r w' => Kept w w' ∧ ((MatchOk es n c L ∧ r = .returned (.bool true)) ∨ (¬ MatchOk es n c L ∧ r = .returned (.bool false))) := by
  have hN := RG.nodes
  have KW : Kept w (w.alloc (Obj.cells #[.int .i64 (N : Int), .slice ao n cap] 24)) := (Kept.refl w).alloc _
  have w0 : (w.alloc (Obj.cells #[.int .i64 (N : Int), .slice ao n cap] 24)).cell? ⟨w.heap.size, 0, none⟩ = some (.int .i64 (N : Int)) := by simp [go_sem]
  have w1 : (w.alloc (Obj.cells #[.int .i64 (N : Int), .slice ao n cap] 24)).cell? ⟨w.heap.size, 1, none⟩ = some (.slice ao n cap) := by simp [go_sem]
  have HE := hid_of h
  have HJ := hid_of hJ
  have RGH := hid_of RG
  have EQV := hid_of (tak_one (n := n) (N := N) (c := c) (L := L) RG.ends)
  clear h hJ RG
  go_enter Tryd.func62, Tryd.ntmps62
  go_upto_region 1 with fail
  generalize w.alloc (Obj.cells #[.int .i64 (N : Int), .slice ao n cap] 24) = W1 at KW w0 w1 ⊢
  have KWH := hid_of KW
  have ON := hid_of (fun w' => onesR_calls N hN (.slice ao n cap) w')
  have TC := hid_of (fun w' (K : Kept W1 w') g (J : JRow w' (some ⟨g, 0, none⟩) N N (onesTo N)) => takenR_calls N ao n cap es co L cc c (some ⟨g, 0, none⟩) N (onesTo N) w' (HE.out.kept (KWH.out.trans K)) (HJ.out.kept (KWH.out.trans K)) J RGH.out)
  by_cases hm : MatchOk es n c L
  · have TC2 := hid_of (fun w' (K : Kept W1 w') g (J : JRow w' (some ⟨g, 0, none⟩) N N (onesTo N)) => (TC.out w' K g J).mono (fun r w'' hp => (show Kept w' w'' ∧ r = .returned (.bool true) from ⟨hp.1, hp.2.elim (fun t => t.2) (fun t => absurd (EQV.out.2 hm) t.1)⟩)))
    have HM := hid_of hm
    clear hm TC
    refine Ord.region [(0, 1), (1, 0), (2, 1), (3, 2), (4, 2), (5, 0)] (fun w' => Kept W1 w') (by kernel_rfl) (by kernel_rfl) (by kernel_rfl) (by kernel_rfl) (fun _ _ d _ _ h => by cases d <;> exact h) ((Kept.refl _).drewN _) ?_
    repeat
      refine Ord.step rfl (fun Ko hK => ?_)
      simp only [Ord.body]
      go_simp
      first
        | (refine hK _ _ ?_; clear hK Ko)
        | (refine ⟨_, fun w' hS => (by have c0 := hS.cell w0; have c1 := hS.cell w1; simp only [c0, c1, Result.andThen]; rfl), hK _ _ ?_⟩; clear hK Ko)
        | (go_at_call 97; refine (ON.out _).mono ?_; rintro e w5 ⟨g5, rfl, J5, K5⟩; refine ⟨((Kept.refl _).drewN _).trans K5, hK _ _ ?_⟩; clear hK Ko)
        | (go_at_call 38; refine (TC2.out _ (((Kept.refl _).drewN _).trans K5) g5 J5).mono ?_; rintro e w6 ⟨K6, rfl⟩; refine ⟨(((Kept.refl _).drewN _).trans K5).trans K6, hK _ _ ?_⟩; clear hK Ko)
    refine Ord.done ?_
    have KN := hid_of (KWH.out.trans ((((Kept.refl W1).drewN 1).trans K5).trans K6))
    clear K5 K6 J5 w0 w1
    go_wp2
    go_ret
    exact ⟨KN.out, .inl ⟨HM.out, rfl⟩⟩
  · have TC2 := hid_of (fun w' (K : Kept W1 w') g (J : JRow w' (some ⟨g, 0, none⟩) N N (onesTo N)) => (TC.out w' K g J).mono (fun r w'' hp => (show Kept w' w'' ∧ r = .returned (.bool false) from ⟨hp.1, hp.2.elim (fun t => absurd (EQV.out.1 t.1) hm) (fun t => t.2)⟩)))
    have HM := hid_of hm
    clear hm TC
    refine Ord.region [(0, 1), (1, 0), (2, 1), (3, 2), (4, 2), (5, 0)] (fun w' => Kept W1 w') (by kernel_rfl) (by kernel_rfl) (by kernel_rfl) (by kernel_rfl) (fun _ _ d _ _ h => by cases d <;> exact h) ((Kept.refl _).drewN _) ?_
    repeat
      refine Ord.step rfl (fun Ko hK => ?_)
      simp only [Ord.body]
      go_simp
      first
        | (refine hK _ _ ?_; clear hK Ko)
        | (refine ⟨_, fun w' hS => (by have c0 := hS.cell w0; have c1 := hS.cell w1; simp only [c0, c1, Result.andThen]; rfl), hK _ _ ?_⟩; clear hK Ko)
        | (go_at_call 97; refine (ON.out _).mono ?_; rintro e w5 ⟨g5, rfl, J5, K5⟩; refine ⟨((Kept.refl _).drewN _).trans K5, hK _ _ ?_⟩; clear hK Ko)
        | (go_at_call 38; refine (TC2.out _ (((Kept.refl _).drewN _).trans K5) g5 J5).mono ?_; rintro e w6 ⟨K6, rfl⟩; refine ⟨(((Kept.refl _).drewN _).trans K5).trans K6, hK _ _ ?_⟩; clear hK Ko)
    refine Ord.done ?_
    have KN := hid_of (KWH.out.trans ((((Kept.refl W1).drewN 1).trans K5).trans K6))
    clear K5 K6 J5 w0 w1
    go_wp2
    go_ret
    exact ⟨KN.out, .inr ⟨HM.out, rfl⟩⟩

set_option maxRecDepth 100000 in
set_option linter.unusedSimpArgs false in
set_option maxHeartbeats 4000000 in
theorem costR_calls (nodes : Int) (N : Nat) (ao : Option Addr) (n cap : Nat) (es : List Ed) (co : Option Addr) (L cc : Nat) (c : List Int) (w : World) (h : ERow w ao n cap es) (hJ : JRow w co L cc c) (RG : Right N n es) (hr : ∀ j, j < L → 0 ≤ zAt c j ∧ zAt c j < (n : Int)) (hL : L ≤ 4096) :
    Calls Tryd.prog 37 #[.agg #[.int .i64 nodes, .slice ao n cap], .slice co L cc] w fun r w' => r = .returned (.int .i64 (csum es c L)) ∧ Kept w w' := by
  have hr1 := h.room
  have hm1 := h.most
  have hr2 := hJ.room
  have hm2 := hJ.most
  unfold maxLen at hm1 hm2
  have KW : Kept w (w.alloc (Obj.cells #[.int .i64 nodes, .slice ao n cap] 24)) := (Kept.refl w).alloc _
  have w1 : (w.alloc (Obj.cells #[.int .i64 nodes, .slice ao n cap] 24)).cell? ⟨w.heap.size, 1, none⟩ = some (.slice ao n cap) := by simp [go_sem]
  have HE := hid_of h
  have HJ := hid_of hJ
  have HR := hid_of hr
  have RGH := hid_of RG
  clear h hJ hr RG
  go_enter Tryd.func37, Tryd.ntmps37
  go_wp2_with fail
  generalize w.alloc (Obj.cells #[.int .i64 nodes, .slice ao n cap] 24) = W1 at KW w1 ⊢
  have W1H := hid_of w1
  have KWH := hid_of KW
  clear KW w1
  go_loopw [5, 6] (fun s i wr => ∃ (k : Nat), k ≤ L ∧ i = .int .i64 k ∧ s = .int .i64 (csum es c k) ∧ Kept W1 wr) (fun _ i _ => L - (intOf i).toNat)
  case atStart => exact ⟨0, by omega, rfl, rfl, Kept.refl _⟩
  case round =>
    obtain ⟨k, hk, rfl, rfl, K⟩ := hrel
    have w1 := K.cell W1H.out
    have KH := hid_of K
    by_cases hgo : (k : Int) < (L : Int)
    · obtain ⟨b, off, rfl, hc⟩ := (HJ.out.kept (KWH.out.trans K)).at (by omega)
      have d := hc k (by omega)
      obtain ⟨y1, y2⟩ := HR.out k (by omega)
      obtain ⟨y, hy⟩ : ∃ y : Nat, zAt c k = (y : Int) := ⟨(zAt c k).toNat, by omega⟩
      have hyn : y < n := by omega
      obtain ⟨b2, off2, rfl, hc2⟩ := (HE.out.kept (KWH.out.trans K)).cell (by omega)
      obtain ⟨d1, d2, d3, d4⟩ := hc2 y hyn
      obtain ⟨l1, l2⟩ := RGH.out.costs y hyn
      obtain ⟨s1, s2⟩ := csum_bd RGH.out HR.out k (by omega)
      have SU : Hid (csum es c (k + 1) = csum es c k + (edAt es y).k) := by
        show csum es c (k + 1) = _
        unfold csum
        rw [sm_succ, hy, Int.toNat_natCast]
      rw [hy] at d y2
      generalize csum es c k = s at SU s1 s2 ⊢
      generalize (edAt es y).k = z at d4 SU l1 l2
      have WR : IntKind.i64.wrap (s + z) = s + z := wrap_id (by omega) (by omega)
      clear hc hc2 d1 d2 d3 hy y1 K l1 l2
      go_upto_region 5 with fail
      refine Ord.region [(0, 0), (1, 0), (2, 1), (3, 0), (4, 0), (5, 0), (6, 1), (7, 0), (8, 0), (9, 1), (10, 0), (11, 0)] (fun w' => Kept wr w') (by kernel_rfl) (by kernel_rfl) (by kernel_rfl) (by kernel_rfl) (fun _ _ d _ _ h => by cases d <;> exact h) ((Kept.refl _).drewN _) ?_
      repeat
        refine Ord.step rfl (fun Ko hK => ?_)
        simp only [Ord.body]
        go_simp
        first
          | (refine hK _ _ ?_; clear hK Ko)
          | (refine ⟨_, fun w' hS => (by have c0 := hS.cell w1; have c1 := hS.cell d; have c2 := hS.cell d4; simp only [c0, c1, c2, Result.andThen]; rfl), hK _ _ ?_⟩; clear hK Ko)
          | ((simp only [WR]))
      refine Ord.done ?_
      have KN := hid_of (KH.out.trans ((Kept.refl wr).drewN 1))
      go_wp2_with fail
      go_roundw
      case rel => exact ⟨k + 1, by omega, by go_num, by rw [SU.out], KN.out⟩
      case measure => simp [intOf]; omega
    · obtain rfl : k = L := by omega
      clear K
      go_wp2
      go_ret
      exact ⟨rfl, KWH.out.trans KH.out⟩
end Go.Proofs.YtpdppjngbbkbbaaDoor
namespace Go.Proofs.YtpdppjngbbkbbaaDoor
open Go.RowKit

set_option maxRecDepth 100000 in
set_option linter.unusedSimpArgs false in
set_option maxHeartbeats 4000000 in
theorem matchingR_calls (nodes : Int) (ao : Option Addr) (n cap : Nat) (es : List Ed) (co : Option Addr) (L cc : Nat) (c : List Int) (w : World) (h : ERow w ao n cap es) (hJ : JRow w co L cc c) (z : Int) (hz : Hid (matAns nodes es n c L = z)) :
    Calls Tryd.prog 22 #[.agg #[.int .i64 nodes, .slice ao n cap], .slice co L cc] w fun r w' => r = .returned (.int .i64 z) ∧ Kept w w' := by
  have hnot : ∀ (x : Bool) (w : World), (Op.unary .not (.bool x)).run Tryd.prog w = .ok (.bool (!x)) w := fun _ _ => rfl
  obtain ⟨fc, fa, hf⟩ : ∃ c a, faultOf nodes es = (c, a) := ⟨_, _, rfl⟩
  have hz' := hz.out
  unfold matAns at hz'
  have KW : Kept w (w.alloc (Obj.cells #[.int .i64 nodes, .slice ao n cap] 24)) := (Kept.refl w).alloc _
  have w0 : (w.alloc (Obj.cells #[.int .i64 nodes, .slice ao n cap] 24)).cell? ⟨w.heap.size, 0, none⟩ = some (.int .i64 nodes) := by simp [go_sem]
  have w1 : (w.alloc (Obj.cells #[.int .i64 nodes, .slice ao n cap] 24)).cell? ⟨w.heap.size, 1, none⟩ = some (.slice ao n cap) := by simp [go_sem]
  have CH := hid_of (checkR_calls nodes ao n cap es _ (h.kept KW) fc fa (hid_of hf))
  have HE := hid_of h
  have HJ := hid_of hJ
  have HLN := hid_of h.len
  clear h hJ hz
  by_cases hc : fc = 0
  rotate_left
  · rw [if_pos (by rw [hf]; exact hc), hf] at hz'
    subst hz'
    have q : (fc == 0) = false := by simpa using hc
    clear hc hf
    go_enter Tryd.func22, Tryd.ntmps22
    go_wp2_with fail
    refine CH.out.mono ?_
    rintro e wa ⟨rfl, K1⟩
    have HK := hid_of (KW.trans K1)
    clear KW K1 CH w0 w1
    go_wp2
    go_ret
    exact ⟨rfl, HK.out⟩
  subst hc
  have h0 : (faultOf nodes es).1 = 0 := by rw [hf]
  rw [if_neg (by rw [hf]; simp)] at hz'
  obtain ⟨N, rfl, RG⟩ := right_of (fault_zero h0)
  rw [← HLN.out] at RG
  have RGH := hid_of RG
  have MC := hid_of (fun w' (K : Kept w w') => matchesR_calls N ao n cap es co L cc c w' (HE.out.kept K) (HJ.out.kept K) RGH.out)
  clear RG hf h0
  go_enter Tryd.func22, Tryd.ntmps22
  go_wp2_with fail
  refine CH.out.mono ?_
  rintro e wa ⟨rfl, K1⟩
  have HK := hid_of (KW.trans K1)
  replace w0 := K1.cell w0
  replace w1 := K1.cell w1
  clear KW K1 CH
  go_wp2_with fail
  refine (MC.out wa HK.out).mono ?_
  rintro e wb ⟨K2, ⟨ok, rfl⟩ | ⟨ok, rfl⟩⟩
  · rw [if_pos ok] at hz'
    subst hz'
    have HK2 := hid_of (HK.out.trans K2)
    clear K2 w0 w1 MC ok HK
    go_wp2
    go_ret
    exact ⟨rfl, HK2.out⟩
  · rw [if_neg ok] at hz'
    subst hz'
    have HK2 := hid_of (HK.out.trans K2)
    clear K2 w0 w1 MC ok HK
    go_wp2
    go_ret
    exact ⟨rfl, HK2.out⟩

end Go.Proofs.YtpdppjngbbkbbaaDoor
namespace Go.Proofs.YtpdppjngbbkbbaaDoor
open Go.RowKit

/-- How often a number stands among the first k. -/
theorem hits_bd (x : List Int) (f : Int) (k : Nat) : 0 ≤ sm (fun i => if f = zAt x i then 1 else 0) k := by
  induction k with
  | zero => exact Int.le_refl _
  | succ k ih => rw [sm_succ]; split <;> omega
theorem hits_in {x : List Int} {f : Int} {k : Nat} (hf : 0 ≤ f) (h : inTo x k f.toNat = true) : 1 ≤ sm (fun i => if f = zAt x i then 1 else 0) k := by
  obtain ⟨j, hj, e⟩ := inTo_iff.1 h
  have ef : f = zAt x j := by omega
  have aux : ∀ k, j < k → 1 ≤ sm (fun i => if f = zAt x i then 1 else 0) k := by
    intro k
    induction k with
    | zero => intro t; omega
    | succ k ih =>
      intro t
      rw [sm_succ]
      by_cases e2 : j = k
      · subst e2
        have := hits_bd x f j
        rw [if_pos ef]; omega
      · have := ih (by omega)
        split <;> omega
  exact aux k hj

/-- No matching has more edges than a cover has nodes. -/
theorem cover_le {es : List Ed} {N n : Nat} {x : List Int} {lx : Nat} (RG : Right N n es) (ris : RiseTo x (N : Int) lx) (cov : ∀ i, i < n → CovE es x lx i) {o : List Int} {lo : Nat} (ok : MatchOk es n o lo) : (lo : Int) ≤ (lx : Int) := by
  have tk := (tak_one (n := n) (N := N) (c := o) (L := lo) RG.ends).2 ok
  have up : sm (fun i => takTo es o lo (zAt x i).toNat) lx ≤ sm (fun _ => 1) lx := sm_le fun i hi => by
    have r := ris.rng hi
    have t := tk.2.2 (zAt x i).toNat (by omega)
    rwa [onesTo_at (by omega)] at t
  have one : ∀ k : Nat, sm (fun _ => (1 : Int)) k = (k : Int) := by
    intro k
    induction k with
    | zero => rfl
    | succ k ih => rw [sm_succ, ih]; omega
  rw [one] at up
  have dn : ∀ k : Nat, k ≤ lo → (k : Int) ≤ sm (fun i => takTo es o k (zAt x i).toNat) lx := by
    intro k
    induction k with
    | zero =>
      intro _
      have : sm (fun i => takTo es o 0 (zAt x i).toNat) lx = sm (fun _ => 0) lx := sm_congr fun i _ => rfl
      rw [this, sm_zero]; exact Int.le_refl _
    | succ k ih =>
      intro hk
      have i := ih (by omega)
      obtain ⟨r1, r2⟩ := ok.1.rng (j := k) (by omega)
      obtain ⟨e1, e2, e3, e4⟩ := RG.ends (zAt o k).toNat (by omega)
      have step : sm (fun i => takTo es o (k + 1) (zAt x i).toNat) lx = (sm (fun i => takTo es o k (zAt x i).toNat) lx + sm (fun i => if frm es o k = zAt x i then 1 else 0) lx) + sm (fun i => if tto es o k = zAt x i then 1 else 0) lx := by
        rw [← sm_add, ← sm_add]
        refine sm_congr fun i hi => ?_
        have r := ris.rng hi
        rw [takTo_succ, show (((zAt x i).toNat : Nat) : Int) = zAt x i by omega]
      have a := hits_bd x (frm es o k) lx
      have b := hits_bd x (tto es o k) lx
      have hne := (ok.2 k (by omega)).1
      rcases cov (zAt o k).toNat (by omega) with c | c | c
      · exact absurd (by unfold lp at c; rw [beq_iff_eq] at c; exact c) hne
      · have := hits_in (f := frm es o k) e1 c
        rw [step]; omega
      · have := hits_in (f := tto es o k) e3 c
        rw [step]; omega
  have := dn lo (Nat.le_refl _)
  omega

/-- No matching costs more than the potentials are together. -/
theorem pots_le {es : List Ed} {N n : Nat} {p : List Int} (RG : Right N n es) (pos : ∀ v, v < N → 0 ≤ zAt p v) (hv : ∀ i, i < n → HvyE es p i) {o : List Int} {lo : Nat} (ok : MatchOk es n o lo) : csum es o lo ≤ sm (zAt p) N := by
  have tk := (tak_one (n := n) (N := N) (c := o) (L := lo) RG.ends).2 ok
  have up : sm (fun v => zAt p v * takTo es o lo v) N ≤ sm (zAt p) N := sm_le fun v hv => by
    have t := tk.2.2 v hv
    rw [onesTo_at hv] at t
    have z := (takTo_bd es o lo v).1
    have q := pos v hv
    rcases (by omega : takTo es o lo v = 0 ∨ takTo es o lo v = 1) with e | e
    · rw [e]; omega
    · rw [e]; omega
  have dn : ∀ k : Nat, k ≤ lo → csum es o k ≤ sm (fun v => zAt p v * takTo es o k v) N := by
    intro k
    induction k with
    | zero =>
      intro _
      have : sm (fun v => zAt p v * takTo es o 0 v) N = sm (fun _ => 0) N := sm_congr fun v _ => by show zAt p v * 0 = 0; omega
      rw [this, sm_zero]; exact Int.le_refl _
    | succ k ih =>
      intro hk
      have i := ih (by omega)
      obtain ⟨r1, r2⟩ := ok.1.rng (j := k) (by omega)
      obtain ⟨e1, e2, e3, e4⟩ := RG.ends (zAt o k).toNat (by omega)
      have step : sm (fun v => zAt p v * takTo es o (k + 1) v) N = (sm (fun v => zAt p v * takTo es o k v) N + sm (fun v => if frm es o k = (v : Int) then zAt p v else 0) N) + sm (fun v => if tto es o k = (v : Int) then zAt p v else 0) N := by
        rw [← sm_add, ← sm_add]
        refine sm_congr fun v _ => ?_
        rw [takTo_succ, Int.mul_add, Int.mul_add]
        congr 1
        · congr 1
          split
          · rw [Int.mul_one]
          · rw [Int.mul_zero]
        · split
          · rw [Int.mul_one]
          · rw [Int.mul_zero]
      rw [sm_pick (zAt p) (frm es o k) N e1 e2, sm_pick (zAt p) (tto es o k) N e3 e4] at step
      have cs : csum es o (k + 1) = csum es o k + (edAt es (zAt o k).toNat).k := rfl
      have hne := (ok.2 k (by omega)).1
      rcases hv (zAt o k).toNat (by omega) with c | c
      · exact absurd (by unfold lp at c; rw [beq_iff_eq] at c; exact c) hne
      · have c : (edAt es (zAt o k).toNat).k ≤ zAt p (frm es o k).toNat + zAt p (tto es o k).toNat := c
        rw [step, cs]; omega
  have := dn lo (Nat.le_refl _)
  omega
end Go.Proofs.YtpdppjngbbkbbaaDoor
namespace Go.Proofs.YtpdppjngbbkbbaaDoor
open Go.RowKit

theorem covAns_no {nodes : Int} {es : List Ed} {n : Nat} {m : List Int} {lm : Nat} {x : List Int} {lx : Nat} {v c : Int} (h : covAns nodes es n m lm x lx = (v, c)) (hc : c ≠ 0) : v = 0 := by
  unfold covAns at h
  split at h
  · exact (Prod.mk.inj h).1.symm
  · split at h
    · exact absurd (Prod.mk.inj h).2.symm hc
    · exact (Prod.mk.inj h).1.symm
theorem hvyAns_no {nodes : Int} {es : List Ed} {n : Nat} {m : List Int} {lm : Nat} {x : List Int} {lx : Nat} {v c : Int} (h : hvyAns nodes es n m lm x lx = (v, c)) (hc : c ≠ 0) : v = 0 := by
  unfold hvyAns at h
  split at h
  · exact (Prod.mk.inj h).1.symm
  · split at h
    · exact absurd (Prod.mk.inj h).2.symm hc
    · exact (Prod.mk.inj h).1.symm
theorem matAns_ok {nodes : Int} {es : List Ed} {n : Nat} {m : List Int} {lm : Nat} (h : matAns nodes es n m lm = 0) : (faultOf nodes es).1 = 0 ∧ MatchOk es n m lm := by
  unfold matAns at h
  split at h
  · rename_i t; exact absurd h t
  · rename_i t
    split at h
    · rename_i u; exact ⟨by simpa using t, u⟩
    · omega
theorem covAns_ok {nodes : Int} {es : List Ed} {n : Nat} {m : List Int} {lm : Nat} {x : List Int} {lx : Nat} {v : Int} (h : covAns nodes es n m lm x lx = (v, 0)) : v = (lm : Int) ∧ CovOk es nodes.toNat n m lm x lx := by
  unfold covAns at h
  split at h
  · rename_i t; exact absurd (Prod.mk.inj h).2 t
  · split at h
    · rename_i u; exact ⟨(Prod.mk.inj h).1.symm, u⟩
    · exact absurd (Prod.mk.inj h).2 (by decide)
theorem hvyAns_ok {nodes : Int} {es : List Ed} {n : Nat} {m : List Int} {lm : Nat} {x : List Int} {lx : Nat} {v : Int} (h : hvyAns nodes es n m lm x lx = (v, 0)) : v = csum es m lm ∧ HvyOk es nodes.toNat n m lm x lx := by
  unfold hvyAns at h
  split at h
  · rename_i t; exact absurd (Prod.mk.inj h).2 t
  · split at h
    · rename_i u; exact ⟨(Prod.mk.inj h).1.symm, u⟩
    · exact absurd (Prod.mk.inj h).2 (by decide)
end Go.Proofs.YtpdppjngbbkbbaaDoor
