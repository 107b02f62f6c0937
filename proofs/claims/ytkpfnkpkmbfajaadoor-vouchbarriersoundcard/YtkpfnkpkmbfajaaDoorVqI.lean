/- The document's Matches, Matching, Cost. -/
import Derived.Test.YtkpfnkpkmbfajaaDoorVqH
import Derived.Test.YtkpfnkpkmbfajaaDoorVpF
namespace Go.Proofs.YtkpfnkpkmbfajaaDoor
open Go.RowKit

set_option maxRecDepth 100000 in
set_option linter.unusedSimpArgs false in
set_option maxHeartbeats 4000000 in
theorem matchesR_calls (N : Nat) (ao : Option Addr) (n cap : Nat) (es : List Ed) (co : Option Addr) (L cc : Nat) (c : List Int) (w : World) (h : ERow w ao n cap es) (hJ : JRow w co L cc c) (RG : Right N n es) :
    Calls Tryd.prog 62 #[.agg #[.int .i64 (N : Int), .slice ao n cap], .slice co L cc] w fun r w' => Kept w w' ∧ ((MatchOk es n c L ∧ r = .returned (.bool true)) ∨ (¬ MatchOk es n c L ∧ r = .returned (.bool false))) := by
  have hN := RG.nodes
  have KW : Kept w (w.alloc (Obj.cells #[.int .i64 (N : Int), .slice ao n cap] 24)) := (Kept.refl w).alloc _
  have w0 : (w.alloc (Obj.cells #[.int .i64 (N : Int), .slice ao n cap] 24)).cell? ⟨w.heap.size, 0, none⟩ = some (.int .i64 (N : Int)) := by simp [go_sem]
  have w1 : (w.alloc (Obj.cells #[.int .i64 (N : Int), .slice ao n cap] 24)).cell? ⟨w.heap.size, 1, none⟩ = some (.slice ao n cap) := by simp [go_sem]
  have HE := hid_of h
  have HJ := hid_of hJ
  have RGH := hid_of RG
  have EQV := hid_of (tak_one (n := n) (N := N) (c := c) (L := L) RG.ends)
  clear h hJ RG
  go_enter Tryd.func62, Tryd.ntmps62
  go_upto_region 1 with fail
  generalize w.alloc (Obj.cells #[.int .i64 (N : Int), .slice ao n cap] 24) = W1 at KW w0 w1 ⊢
  have KWH := hid_of KW
  have ON := hid_of (fun w' => onesR_calls N hN (.slice ao n cap) w')
  have TC := hid_of (fun w' (K : Kept W1 w') g (J : JRow w' (some ⟨g, 0, none⟩) N N (onesTo N)) => takenR_calls N ao n cap es co L cc c (some ⟨g, 0, none⟩) N (onesTo N) w' (HE.out.kept (KWH.out.trans K)) (HJ.out.kept (KWH.out.trans K)) J RGH.out)
  by_cases hm : MatchOk es n c L
  · have TC2 := hid_of (fun w' (K : Kept W1 w') g (J : JRow w' (some ⟨g, 0, none⟩) N N (onesTo N)) => (TC.out w' K g J).mono (fun r w'' hp => (show Kept w' w'' ∧ r = .returned (.bool true) from ⟨hp.1, hp.2.elim (fun t => t.2) (fun t => absurd (EQV.out.2 hm) t.1)⟩)))
    have HM := hid_of hm
    clear hm TC
    refine Ord.region [(0, 1), (1, 0), (2, 1), (3, 2), (4, 2), (5, 0)] (fun w' => Kept W1 w') (by kernel_rfl) (by kernel_rfl) (by kernel_rfl) (by kernel_rfl) (fun _ _ d _ _ h => by cases d <;> exact h) ((Kept.refl _).drewN _) ?_
    repeat
      refine Ord.step rfl (fun Ko hK => ?_)
      simp only [Ord.body]
      go_simp
      first
        | (refine hK _ _ ?_; clear hK Ko)
        | (refine ⟨_, fun w' hS => (by have c0 := hS.cell w0; have c1 := hS.cell w1; simp only [c0, c1, Result.andThen]; rfl), hK _ _ ?_⟩; clear hK Ko)
        | (go_at_call 97; refine (ON.out _).mono ?_; rintro e w5 ⟨g5, rfl, J5, K5⟩; refine ⟨((Kept.refl _).drewN _).trans K5, hK _ _ ?_⟩; clear hK Ko)
        | (go_at_call 38; refine (TC2.out _ (((Kept.refl _).drewN _).trans K5) g5 J5).mono ?_; rintro e w6 ⟨K6, rfl⟩; refine ⟨(((Kept.refl _).drewN _).trans K5).trans K6, hK _ _ ?_⟩; clear hK Ko)
    refine Ord.done ?_
    have KN := hid_of (KWH.out.trans ((((Kept.refl W1).drewN 1).trans K5).trans K6))
    clear K5 K6 J5 w0 w1
    go_wp2
    go_ret
    exact ⟨KN.out, .inl ⟨HM.out, rfl⟩⟩
  · have TC2 := hid_of (fun w' (K : Kept W1 w') g (J : JRow w' (some ⟨g, 0, none⟩) N N (onesTo N)) => (TC.out w' K g J).mono (fun r w'' hp => (show Kept w' w'' ∧ r = .returned (.bool false) from ⟨hp.1, hp.2.elim (fun t => absurd (EQV.out.1 t.1) hm) (fun t => t.2)⟩)))
    have HM := hid_of hm
    clear hm TC
    refine Ord.region [(0, 1), (1, 0), (2, 1), (3, 2), (4, 2), (5, 0)] (fun w' => Kept W1 w') (by kernel_rfl) (by kernel_rfl) (by kernel_rfl) (by kernel_rfl) (fun _ _ d _ _ h => by cases d <;> exact h) ((Kept.refl _).drewN _) ?_
    repeat
      refine Ord.step rfl (fun Ko hK => ?_)
      simp only [Ord.body]
      go_simp
      first
        | (refine hK _ _ ?_; clear hK Ko)
        | (refine ⟨_, fun w' hS => (by have c0 := hS.cell w0; have c1 := hS.cell w1; simp only [c0, c1, Result.andThen]; rfl), hK _ _ ?_⟩; clear hK Ko)
        | (go_at_call 97; refine (ON.out _).mono ?_; rintro e w5 ⟨g5, rfl, J5, K5⟩; refine ⟨((Kept.refl _).drewN _).trans K5, hK _ _ ?_⟩; clear hK Ko)
        | (go_at_call 38; refine (TC2.out _ (((Kept.refl _).drewN _).trans K5) g5 J5).mono ?_; rintro e w6 ⟨K6, rfl⟩; refine ⟨(((Kept.refl _).drewN _).trans K5).trans K6, hK _ _ ?_⟩; clear hK Ko)
    refine Ord.done ?_
    have KN := hid_of (KWH.out.trans ((((Kept.refl W1).drewN 1).trans K5).trans K6))
    clear K5 K6 J5 w0 w1
    go_wp2
    go_ret
    exact ⟨KN.out, .inr ⟨HM.out, rfl⟩⟩

set_option maxRecDepth 100000 in
set_option linter.unusedSimpArgs false in
set_option maxHeartbeats 4000000 in
theorem costR_calls (nodes : Int) (N : Nat) (ao : Option Addr) (n cap : Nat) (es : List Ed) (co : Option Addr) (L cc : Nat) (c : List Int) (w : World) (h : ERow w ao n cap es) (hJ : JRow w co L cc c) (RG : Right N n es) (hr : ∀ j, j < L → 0 ≤ zAt c j ∧ zAt c j < (n : Int)) (hL : L ≤ 4096) :
    Calls Tryd.prog 37 #[.agg #[.int .i64 nodes, .slice ao n cap], .slice co L cc] w fun r w' => r = .returned (.int .i64 (csum es c L)) ∧ Kept w w' := by
  have hr1 := h.room
  have hm1 := h.most
  have hr2 := hJ.room
  have hm2 := hJ.most
  unfold maxLen at hm1 hm2
  have KW : Kept w (w.alloc (Obj.cells #[.int .i64 nodes, .slice ao n cap] 24)) := (Kept.refl w).alloc _
  have w1 : (w.alloc (Obj.cells #[.int .i64 nodes, .slice ao n cap] 24)).cell? ⟨w.heap.size, 1, none⟩ = some (.slice ao n cap) := by simp [go_sem]
  have HE := hid_of h
  have HJ := hid_of hJ
  have HR := hid_of hr
  have RGH := hid_of RG
  clear h hJ hr RG
  go_enter Tryd.func37, Tryd.ntmps37
  go_wp2_with fail
  generalize w.alloc (Obj.cells #[.int .i64 nodes, .slice ao n cap] 24) = W1 at KW w1 ⊢
  have W1H := hid_of w1
  have KWH := hid_of KW
  clear KW w1
  go_loopw [5, 6] (fun s i wr => ∃ (k : Nat), k ≤ L ∧ i = .int .i64 k ∧ s = .int .i64 (csum es c k) ∧ Kept W1 wr) (fun _ i _ => L - (intOf i).toNat)
  case atStart => exact ⟨0, by omega, rfl, rfl, Kept.refl _⟩
  case round =>
    obtain ⟨k, hk, rfl, rfl, K⟩ := hrel
    have w1 := K.cell W1H.out
    have KH := hid_of K
    by_cases hgo : (k : Int) < (L : Int)
    · obtain ⟨b, off, rfl, hc⟩ := (HJ.out.kept (KWH.out.trans K)).at (by omega)
      have d := hc k (by omega)
      obtain ⟨y1, y2⟩ := HR.out k (by omega)
      obtain ⟨y, hy⟩ : ∃ y : Nat, zAt c k = (y : Int) := ⟨(zAt c k).toNat, by omega⟩
      have hyn : y < n := by omega
      obtain ⟨b2, off2, rfl, hc2⟩ := (HE.out.kept (KWH.out.trans K)).cell (by omega)
      obtain ⟨d1, d2, d3, d4⟩ := hc2 y hyn
      obtain ⟨l1, l2⟩ := RGH.out.costs y hyn
      obtain ⟨s1, s2⟩ := csum_bd RGH.out HR.out k (by omega)
      have SU : Hid (csum es c (k + 1) = csum es c k + (edAt es y).k) := by
        show csum es c (k + 1) = _
        unfold csum
        rw [sm_succ, hy, Int.toNat_natCast]
      rw [hy] at d y2
      generalize csum es c k = s at SU s1 s2 ⊢
      generalize (edAt es y).k = z at d4 SU l1 l2
      have WR : IntKind.i64.wrap (s + z) = s + z := wrap_id (by omega) (by omega)
      clear hc hc2 d1 d2 d3 hy y1 K l1 l2
      go_upto_region 5 with fail
      refine Ord.region [(0, 0), (1, 0), (2, 1), (3, 0), (4, 0), (5, 0), (6, 1), (7, 0), (8, 0), (9, 1), (10, 0), (11, 0)] (fun w' => Kept wr w') (by kernel_rfl) (by kernel_rfl) (by kernel_rfl) (by kernel_rfl) (fun _ _ d _ _ h => by cases d <;> exact h) ((Kept.refl _).drewN _) ?_
      repeat
        refine Ord.step rfl (fun Ko hK => ?_)
        simp only [Ord.body]
        go_simp
        first
          | (refine hK _ _ ?_; clear hK Ko)
          | (refine ⟨_, fun w' hS => (by have c0 := hS.cell w1; have c1 := hS.cell d; have c2 := hS.cell d4; simp only [c0, c1, c2, Result.andThen]; rfl), hK _ _ ?_⟩; clear hK Ko)
          | ((simp only [WR]))
      refine Ord.done ?_
      have KN := hid_of (KH.out.trans ((Kept.refl wr).drewN 1))
      go_wp2_with fail
      go_roundw
      case rel => exact ⟨k + 1, by omega, by go_num, by rw [SU.out], KN.out⟩
      case measure => simp [intOf]; omega
    · obtain rfl : k = L := by omega
      clear K
      go_wp2
      go_ret
      exact ⟨rfl, KWH.out.trans KH.out⟩
end Go.Proofs.YtkpfnkpkmbfajaaDoor
