/- The document's At, Taken. -/
import Derived.Test.YtkpfnkpkmbfajaaDoorVqE
namespace Go.Proofs.YtkpfnkpkmbfajaaDoor
open Go.RowKit

set_option maxRecDepth 100000 in
set_option linter.unusedSimpArgs false in
set_option maxHeartbeats 4000000 in
theorem atR_calls (nodes : Int) (ao : Option Addr) (n cap : Nat) (es : List Ed) (co : Option Addr) (L cc : Nat) (c : List Int) (v : Nat) (w : World) (h : ERow w ao n cap es) (hJ : JRow w co L cc c) (hr : ∀ j, j < L → 0 ≤ zAt c j ∧ zAt c j < (n : Int)) (hL : L ≤ 4096) :
    Calls Tryd.prog 88 #[.agg #[.int .i64 nodes, .slice ao n cap], .slice co L cc, .int .i64 (v : Int)] w fun r w' => r = .returned (.int .i64 (takTo es c L v)) ∧ Kept w w' := by
  have hr1 := h.room
  have hm1 := h.most
  have hr2 := hJ.room
  have hm2 := hJ.most
  unfold maxLen at hm1 hm2
  have KW : Kept w (w.alloc (Obj.cells #[.int .i64 nodes, .slice ao n cap] 24)) := (Kept.refl w).alloc _
  have w1 : (w.alloc (Obj.cells #[.int .i64 nodes, .slice ao n cap] 24)).cell? ⟨w.heap.size, 1, none⟩ = some (.slice ao n cap) := by simp [go_sem]
  have HE := hid_of h
  have HJ := hid_of hJ
  have HR := hid_of hr
  clear h hJ hr
  go_enter Tryd.func88, Tryd.ntmps88
  go_wp2_with fail
  generalize w.alloc (Obj.cells #[.int .i64 nodes, .slice ao n cap] 24) = W1 at KW w1 ⊢
  have W1H := hid_of w1
  have KWH := hid_of KW
  clear KW w1
  go_loopw [7, 8] (fun s i wr => ∃ (k : Nat), k ≤ L ∧ i = .int .i64 k ∧ s = .int .i64 (takTo es c k v) ∧ Kept W1 wr) (fun _ i _ => L - (intOf i).toNat)
  case atStart => exact ⟨0, by omega, rfl, rfl, Kept.refl _⟩
  case round =>
    obtain ⟨k, hk, rfl, rfl, K⟩ := hrel
    have w1 := K.cell W1H.out
    have KH := hid_of K
    by_cases hgo : (k : Int) < (L : Int)
    · obtain ⟨b, off, rfl, hc⟩ := (HJ.out.kept (KWH.out.trans K)).at (by omega)
      have d := hc k (by omega)
      obtain ⟨y1, y2⟩ := HR.out k (by omega)
      obtain ⟨y, hy⟩ : ∃ y : Nat, zAt c k = (y : Int) := ⟨(zAt c k).toNat, by omega⟩
      have hyn : y < n := by omega
      obtain ⟨b2, off2, rfl, hc2⟩ := (HE.out.kept (KWH.out.trans K)).cell (by omega)
      obtain ⟨d1, d2, d3, d4⟩ := hc2 y hyn
      have SU := hid_of (takTo_succ es c k v)
      obtain ⟨t1, t2⟩ := takTo_bd es c k v
      have FF : Hid (frm es c k = (edAt es y).f) := by
        show frm es c k = _
        unfold frm
        rw [hy, Int.toNat_natCast]
      have TT : Hid (tto es c k = (edAt es y).t) := by
        show tto es c k = _
        unfold tto
        rw [hy, Int.toNat_natCast]
      rw [FF.out, TT.out] at SU
      rw [hy] at d y2
      generalize takTo es c k v = cnt at SU t1 t2 ⊢
      generalize (edAt es y).f = f at d1 SU
      generalize (edAt es y).t = t at d2 SU
      have WA : IntKind.i64.wrap (cnt + 1) = cnt + 1 := wrap_id (by omega) (by omega)
      have WB : IntKind.i64.wrap (cnt + 1 + 1) = cnt + 1 + 1 := wrap_id (by omega) (by omega)
      clear hc hc2 d3 d4 hy y1 FF TT K
      have D5 := hid_of w1
      have D6 := hid_of d
      have D7 := hid_of d2
      by_cases hf : f = (v : Int)
      · have q1 : (f == (v : Int)) = true := by rw [beq_iff_eq]; exact hf
        go_wp2_with fail
        refine Ord.region [(0, 0), (1, 1), (2, 0), (3, 0), (4, 0), (5, 1), (6, 0), (7, 0), (8, 1), (9, 0), (10, 0)] (fun w' => Kept wr w') (by kernel_rfl) (by kernel_rfl) (by kernel_rfl) (by kernel_rfl) (fun _ _ d _ _ h => by cases d <;> exact h) ((Kept.refl _).drewN _) ?_
        repeat
          refine Ord.step rfl (fun Ko hK => ?_)
          simp only [Ord.body]
          go_simp
          first
            | (refine hK _ _ ?_; clear hK Ko)
            | (refine ⟨_, fun w' hS => (by have c0 := hS.cell w1; have c1 := hS.cell d; have c2 := hS.cell d1; simp only [c0, c1, c2, Result.andThen]; rfl), hK _ _ ?_⟩; clear hK Ko)
            | ((simp only [q1]))
        refine Ord.done ?_
        have w1 := ((Kept.refl wr).drewN 1).cell D5.out
        have d := ((Kept.refl wr).drewN 1).cell D6.out
        have d2 := ((Kept.refl wr).drewN 1).cell D7.out
        by_cases ht : t = (v : Int)
        · have q2 : (t == (v : Int)) = true := by rw [beq_iff_eq]; exact ht
          have E : Hid (takTo es c (k + 1) v = cnt + 1 + 1) := by
            show takTo es c (k + 1) v = _
            rw [SU.out, if_pos hf, if_pos ht]
          go_wp2_with fail
          refine Ord.region [(0, 0), (1, 1), (2, 0), (3, 0), (4, 0), (5, 1), (6, 0), (7, 0), (8, 1), (9, 0), (10, 0)] (fun w' => Kept wr w') (by kernel_rfl) (by kernel_rfl) (by kernel_rfl) (by kernel_rfl) (fun _ _ d _ _ h => by cases d <;> exact h) (((Kept.refl _).drewN _).drewN _) ?_
          repeat
            refine Ord.step rfl (fun Ko hK => ?_)
            simp only [Ord.body]
            go_simp
            first
              | (refine hK _ _ ?_; clear hK Ko)
              | (refine ⟨_, fun w' hS => (by have c0 := hS.cell w1; have c1 := hS.cell d; have c2 := hS.cell d2; simp only [c0, c1, c2, Result.andThen]; rfl), hK _ _ ?_⟩; clear hK Ko)
              | ((simp only [q2]))
          refine Ord.done ?_
          have KN := hid_of (KH.out.trans (((Kept.refl wr).drewN 1).drewN 1))
          go_wp2_with fail
          go_roundw
          case rel => exact ⟨k + 1, by omega, by go_num, by rw [E.out], KN.out⟩
          case measure => simp [intOf]; omega
        · have q2 : (t == (v : Int)) = false := by rw [beq_eq_false_iff_ne]; exact ht
          have E : Hid (takTo es c (k + 1) v = cnt + 1) := by
            show takTo es c (k + 1) v = _
            rw [SU.out, if_pos hf, if_neg ht]; omega
          go_wp2_with fail
          refine Ord.region [(0, 0), (1, 1), (2, 0), (3, 0), (4, 0), (5, 1), (6, 0), (7, 0), (8, 1), (9, 0), (10, 0)] (fun w' => Kept wr w') (by kernel_rfl) (by kernel_rfl) (by kernel_rfl) (by kernel_rfl) (fun _ _ d _ _ h => by cases d <;> exact h) (((Kept.refl _).drewN _).drewN _) ?_
          repeat
            refine Ord.step rfl (fun Ko hK => ?_)
            simp only [Ord.body]
            go_simp
            first
              | (refine hK _ _ ?_; clear hK Ko)
              | (refine ⟨_, fun w' hS => (by have c0 := hS.cell w1; have c1 := hS.cell d; have c2 := hS.cell d2; simp only [c0, c1, c2, Result.andThen]; rfl), hK _ _ ?_⟩; clear hK Ko)
              | ((simp only [q2]))
          refine Ord.done ?_
          have KN := hid_of (KH.out.trans (((Kept.refl wr).drewN 1).drewN 1))
          go_wp2_with fail
          go_roundw
          case rel => exact ⟨k + 1, by omega, by go_num, by rw [E.out], KN.out⟩
          case measure => simp [intOf]; omega
      · have q1 : (f == (v : Int)) = false := by rw [beq_eq_false_iff_ne]; exact hf
        go_wp2_with fail
        refine Ord.region [(0, 0), (1, 1), (2, 0), (3, 0), (4, 0), (5, 1), (6, 0), (7, 0), (8, 1), (9, 0), (10, 0)] (fun w' => Kept wr w') (by kernel_rfl) (by kernel_rfl) (by kernel_rfl) (by kernel_rfl) (fun _ _ d _ _ h => by cases d <;> exact h) ((Kept.refl _).drewN _) ?_
        repeat
          refine Ord.step rfl (fun Ko hK => ?_)
          simp only [Ord.body]
          go_simp
          first
            | (refine hK _ _ ?_; clear hK Ko)
            | (refine ⟨_, fun w' hS => (by have c0 := hS.cell w1; have c1 := hS.cell d; have c2 := hS.cell d1; simp only [c0, c1, c2, Result.andThen]; rfl), hK _ _ ?_⟩; clear hK Ko)
            | ((simp only [q1]))
        refine Ord.done ?_
        have w1 := ((Kept.refl wr).drewN 1).cell D5.out
        have d := ((Kept.refl wr).drewN 1).cell D6.out
        have d2 := ((Kept.refl wr).drewN 1).cell D7.out
        by_cases ht : t = (v : Int)
        · have q2 : (t == (v : Int)) = true := by rw [beq_iff_eq]; exact ht
          have E : Hid (takTo es c (k + 1) v = cnt + 1) := by
            show takTo es c (k + 1) v = _
            rw [SU.out, if_neg hf, if_pos ht]; omega
          go_wp2_with fail
          refine Ord.region [(0, 0), (1, 1), (2, 0), (3, 0), (4, 0), (5, 1), (6, 0), (7, 0), (8, 1), (9, 0), (10, 0)] (fun w' => Kept wr w') (by kernel_rfl) (by kernel_rfl) (by kernel_rfl) (by kernel_rfl) (fun _ _ d _ _ h => by cases d <;> exact h) (((Kept.refl _).drewN _).drewN _) ?_
          repeat
            refine Ord.step rfl (fun Ko hK => ?_)
            simp only [Ord.body]
            go_simp
            first
              | (refine hK _ _ ?_; clear hK Ko)
              | (refine ⟨_, fun w' hS => (by have c0 := hS.cell w1; have c1 := hS.cell d; have c2 := hS.cell d2; simp only [c0, c1, c2, Result.andThen]; rfl), hK _ _ ?_⟩; clear hK Ko)
              | ((simp only [q2]))
          refine Ord.done ?_
          have KN := hid_of (KH.out.trans (((Kept.refl wr).drewN 1).drewN 1))
          go_wp2_with fail
          go_roundw
          case rel => exact ⟨k + 1, by omega, by go_num, by rw [E.out], KN.out⟩
          case measure => simp [intOf]; omega
        · have q2 : (t == (v : Int)) = false := by rw [beq_eq_false_iff_ne]; exact ht
          have E : Hid (takTo es c (k + 1) v = cnt) := by
            show takTo es c (k + 1) v = _
            rw [SU.out, if_neg hf, if_neg ht]; omega
          go_wp2_with fail
          refine Ord.region [(0, 0), (1, 1), (2, 0), (3, 0), (4, 0), (5, 1), (6, 0), (7, 0), (8, 1), (9, 0), (10, 0)] (fun w' => Kept wr w') (by kernel_rfl) (by kernel_rfl) (by kernel_rfl) (by kernel_rfl) (fun _ _ d _ _ h => by cases d <;> exact h) (((Kept.refl _).drewN _).drewN _) ?_
          repeat
            refine Ord.step rfl (fun Ko hK => ?_)
            simp only [Ord.body]
            go_simp
            first
              | (refine hK _ _ ?_; clear hK Ko)
              | (refine ⟨_, fun w' hS => (by have c0 := hS.cell w1; have c1 := hS.cell d; have c2 := hS.cell d2; simp only [c0, c1, c2, Result.andThen]; rfl), hK _ _ ?_⟩; clear hK Ko)
              | ((simp only [q2]))
          refine Ord.done ?_
          have KN := hid_of (KH.out.trans (((Kept.refl wr).drewN 1).drewN 1))
          go_wp2_with fail
          go_roundw
          case rel => exact ⟨k + 1, by omega, by go_num, by rw [E.out], KN.out⟩
          case measure => simp [intOf]; omega
    · obtain rfl : k = L := by omega
      clear K
      go_wp2
      go_ret
      exact ⟨rfl, KWH.out.trans KH.out⟩
end Go.Proofs.YtkpfnkpkmbfajaaDoor
