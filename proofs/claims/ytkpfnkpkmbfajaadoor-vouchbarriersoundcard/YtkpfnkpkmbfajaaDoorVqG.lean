/- The document's Taken. -/
import Derived.Test.YtkpfnkpkmbfajaaDoorVqF
namespace Go.Proofs.YtkpfnkpkmbfajaaDoor
open Go.RowKit

set_option maxRecDepth 100000 in
set_option linter.unusedSimpArgs false in
set_option maxHeartbeats 4000000 in
theorem takenR_calls (N : Nat) (ao : Option Addr) (n cap : Nat) (es : List Ed) (co : Option Addr) (L cc : Nat) (c : List Int) (bo : Option Addr) (bc : Nat) (b : List Int) (w : World) (h : ERow w ao n cap es) (hJ : JRow w co L cc c) (hB : JRow w bo N bc b) (RG : Right N n es) :
    Calls Tryd.prog 38 #[.agg #[.int .i64 (N : Int), .slice ao n cap], .slice co L cc, .slice bo N bc] w fun r w' => Kept w w' ∧ ((TakOk es n N b c L ∧ r = .returned (.bool true)) ∨ (¬ TakOk es n N b c L ∧ r = .returned (.bool false))) := by
  have hN := RG.nodes
  have hn := RG.edges
  have hr1 := h.room
  have hm1 := h.most
  have hr2 := hJ.room
  have hm2 := hJ.most
  have hr3 := hB.room
  have hm3 := hB.most
  unfold maxLen at hm1 hm2 hm3
  have KW : Kept w (w.alloc (Obj.cells #[.int .i64 (N : Int), .slice ao n cap] 24)) := (Kept.refl w).alloc _
  have w0 : (w.alloc (Obj.cells #[.int .i64 (N : Int), .slice ao n cap] 24)).cell? ⟨w.heap.size, 0, none⟩ = some (.int .i64 (N : Int)) := by simp [go_sem]
  have w1 : (w.alloc (Obj.cells #[.int .i64 (N : Int), .slice ao n cap] 24)).cell? ⟨w.heap.size, 1, none⟩ = some (.slice ao n cap) := by simp [go_sem]
  have HE := hid_of h
  have HJ := hid_of hJ
  have HB := hid_of hB
  have RGH := hid_of RG
  clear h hJ hB RG
  have hnot : ∀ (x : Bool) (w : World), (Op.unary .not (.bool x)).run Tryd.prog w = .ok (.bool (!x)) w := fun _ _ => rfl
  go_enter Tryd.func38, Tryd.ntmps38
  go_wp2_with fail
  generalize w.alloc (Obj.cells #[.int .i64 (N : Int), .slice ao n cap] 24) = W1 at KW w0 w1 ⊢
  refine (risingR_calls co L cc c (n : Int) W1 (HJ.out.kept KW)).mono ?_
  rintro e wa ⟨K1, ⟨ris, rfl⟩ | ⟨ris, rfl⟩⟩
  rotate_left
  · have HK := hid_of (KW.trans K1)
    clear w0 w1 K1 KW
    go_wp2
    go_ret
    exact ⟨HK.out, .inr ⟨fun t => ris t.1, rfl⟩⟩
  have W0H := hid_of (K1.cell w0)
  have W1H := hid_of (K1.cell w1)
  have KWH := hid_of (KW.trans K1)
  have RIS := hid_of ris
  have lmn : L ≤ 4096 := by have := ris.len_le; omega
  clear K1 KW w0 w1 ris
  go_wp2_with fail
  go_loopw [7] (fun i wr => ∃ (k : Nat), k ≤ L ∧ i = .int .i64 k ∧ Kept wa wr ∧ ∀ j, j < k → frm es c j ≠ tto es c j) (fun i _ => L - (intOf i).toNat)
  case atStart => exact ⟨0, by omega, rfl, Kept.refl _, fun i hi => by omega⟩
  case round =>
    obtain ⟨k, hk, rfl, K, hno⟩ := hrel
    have HNO := hid_of hno
    have KH := hid_of K
    have w1 := K.cell W1H.out
    clear hno
    by_cases hgo : (k : Int) < (L : Int)
    · obtain ⟨b1, off, rfl, hc⟩ := (HJ.out.kept (KWH.out.trans K)).at (by omega)
      have d := hc k (by omega)
      obtain ⟨y1, y2⟩ := RIS.out.rng (j := k) (by omega)
      obtain ⟨y, hy⟩ : ∃ y : Nat, zAt c k = (y : Int) := ⟨(zAt c k).toNat, by omega⟩
      have hyn : y < n := by omega
      obtain ⟨b2, off2, rfl, hc2⟩ := (HE.out.kept (KWH.out.trans K)).cell (by omega)
      obtain ⟨d1, d2, d3, d4⟩ := hc2 y hyn
      have FF : Hid (frm es c k = (edAt es y).f) := by
        show frm es c k = _
        unfold frm
        rw [hy, Int.toNat_natCast]
      have TT : Hid (tto es c k = (edAt es y).t) := by
        show tto es c k = _
        unfold tto
        rw [hy, Int.toNat_natCast]
      have HIT : Hid (frm es c k ≠ tto es c k → ∀ j, j < k + 1 → frm es c j ≠ tto es c j) := fun hb i hi => by
        by_cases e : i = k
        · subst e; exact hb
        · exact HNO.out i (by omega)
      have MISS : Hid (frm es c k = tto es c k → ¬ TakOk es n N b c L) := fun hb t => t.2.1 k (by omega) hb
      rw [FF.out, TT.out] at HIT MISS
      rw [hy] at d y2
      generalize (edAt es y).f = f at d1 HIT MISS
      generalize (edAt es y).t = t at d2 HIT MISS
      clear hc hc2 d3 d4 hy y1 FF TT K
      by_cases hft : f = t
      · have P := hid_of (MISS.out hft)
        have q1 : (f == t) = true := by rw [beq_iff_eq]; exact hft
        clear HIT MISS hft
        go_wp2_with fail
        refine Ord.region [(0, 0), (1, 1), (2, 0), (3, 0), (4, 0), (5, 1), (6, 0), (7, 0), (8, 1), (9, 0), (10, 1), (11, 0), (12, 0), (13, 0), (14, 1), (15, 0), (16, 0), (17, 1), (18, 0)] (fun w' => Kept wr w') (by kernel_rfl) (by kernel_rfl) (by kernel_rfl) (by kernel_rfl) (fun _ _ d _ _ h => by cases d <;> exact h) ((Kept.refl _).drewN _) ?_
        repeat
          refine Ord.step rfl (fun Ko hK => ?_)
          simp only [Ord.body]
          go_simp
          first
            | (refine hK _ _ ?_; clear hK Ko)
            | (refine ⟨_, fun w' hS => (by have c0 := hS.cell w1; have c1 := hS.cell d; have c2 := hS.cell d1; have c3 := hS.cell d2; simp only [c0, c1, c2, c3, Result.andThen]; rfl), hK _ _ ?_⟩; clear hK Ko)
            | ((simp only [q1]))
        refine Ord.done ?_
        have KN := hid_of (KWH.out.trans (KH.out.trans ((Kept.refl wr).drewN 1)))
        go_wp2
        go_ret
        exact ⟨KN.out, .inr ⟨P.out, rfl⟩⟩
      · have P := hid_of (HIT.out hft)
        have q1 : (f == t) = false := by rw [beq_eq_false_iff_ne]; exact hft
        clear HIT MISS
        go_wp2_with fail
        refine Ord.region [(0, 0), (1, 1), (2, 0), (3, 0), (4, 0), (5, 1), (6, 0), (7, 0), (8, 1), (9, 0), (10, 1), (11, 0), (12, 0), (13, 0), (14, 1), (15, 0), (16, 0), (17, 1), (18, 0)] (fun w' => Kept wr w') (by kernel_rfl) (by kernel_rfl) (by kernel_rfl) (by kernel_rfl) (fun _ _ d _ _ h => by cases d <;> exact h) ((Kept.refl _).drewN _) ?_
        repeat
          refine Ord.step rfl (fun Ko hK => ?_)
          simp only [Ord.body]
          go_simp
          first
            | (refine hK _ _ ?_; clear hK Ko)
            | (refine ⟨_, fun w' hS => (by have c0 := hS.cell w1; have c1 := hS.cell d; have c2 := hS.cell d1; have c3 := hS.cell d2; simp only [c0, c1, c2, c3, Result.andThen]; rfl), hK _ _ ?_⟩; clear hK Ko)
            | ((simp only [q1]))
        refine Ord.done ?_
        have KN := hid_of (KH.out.trans ((Kept.refl wr).drewN 1))
        go_wp2_with fail
        go_roundw
        case rel => exact ⟨k + 1, by omega, by go_num, KN.out, P.out⟩
        case measure => simp [intOf]; omega
    · obtain rfl : k = L := by omega
      clear K w1
      go_wp2_with fail
      go_loopw [8] (fun i w2 => ∃ (v : Nat), v ≤ N ∧ i = .int .i64 v ∧ Kept wa w2 ∧ ∀ j, j < v → takTo es c k j ≤ zAt b j) (fun i _ => N - (intOf i).toNat)
      case atStart => exact ⟨0, by omega, rfl, KH.out, fun i hi => by omega⟩
      case round =>
        obtain ⟨v, hv, rfl, K, hlt⟩ := hrel
        have HLT := hid_of hlt
        have K2 := hid_of K
        have w0 := K.cell W0H.out
        have w1 := K.cell W1H.out
        clear hlt
        by_cases hgo2 : (v : Int) < (N : Int)
        · obtain ⟨b5, off5, rfl, hc5⟩ := (HB.out.kept (KWH.out.trans K)).at (by omega)
          have d6 := hc5 v (by omega)
          have HIT : Hid (takTo es c k v ≤ zAt b v → ∀ j, j < v + 1 → takTo es c k j ≤ zAt b j) := fun hb i hi => by
            by_cases e : i = v
            · subst e; exact hb
            · exact HLT.out i (by omega)
          have MISS : Hid (¬ takTo es c k v ≤ zAt b v → ¬ TakOk es n N b c k) := fun hb t => hb (t.2.2 v (by omega))
          have AC := hid_of (fun w' (K' : Kept wa w') => atR_calls (N : Int) ao n cap es co k cc c v w' (HE.out.kept (KWH.out.trans K')) (HJ.out.kept (KWH.out.trans K')) (fun j hj => RIS.out.rng hj) lmn)
          generalize takTo es c k v = tk at HIT MISS AC
          generalize zAt b v = bv at d6 HIT MISS
          clear hc5 K
          by_cases hle : tk ≤ bv
          · have P := hid_of (HIT.out hle)
            have qd : decide (bv < tk) = false := decide_eq_false (by omega)
            clear HIT MISS
            go_wp2_with fail
            refine Ord.region [(0, 1), (1, 0), (2, 0), (4, 0), (5, 0), (6, 0), (7, 1), (3, 2), (8, 0)] (fun w' => Kept wr w') (by kernel_rfl) (by kernel_rfl) (by kernel_rfl) (by kernel_rfl) (fun _ _ d _ _ h => by cases d <;> exact h) ((Kept.refl _).drewN _) ?_
            repeat
              refine Ord.step rfl (fun Ko hK => ?_)
              simp only [Ord.body]
              go_simp
              first
                | (refine hK _ _ ?_; clear hK Ko)
                | (refine ⟨_, fun w' hS => (by have c0 := hS.cell w0; have c1 := hS.cell w1; have c2 := hS.cell d6; simp only [c0, c1, c2, Result.andThen]; rfl), hK _ _ ?_⟩; clear hK Ko)
                | (go_at_call 88; refine (AC.out _ (K2.out.trans ((Kept.refl _).drewN _))).mono ?_; rintro e w5 ⟨rfl, K5⟩; refine ⟨((Kept.refl _).drewN _).trans K5, hK _ _ ?_⟩; clear hK Ko)
                | ((simp only [qd]))
            refine Ord.done ?_
            have KN := hid_of (K2.out.trans (((Kept.refl wr).drewN 1).trans K5))
            clear K5
            go_wp2_with fail
            go_roundw
            case rel => exact ⟨v + 1, by omega, by go_num, KN.out, P.out⟩
            case measure => simp [intOf]; omega
          · have P := hid_of (MISS.out hle)
            have qd : decide (bv < tk) = true := decide_eq_true (by omega)
            clear HIT MISS
            go_wp2_with fail
            refine Ord.region [(0, 1), (1, 0), (2, 0), (4, 0), (5, 0), (6, 0), (7, 1), (3, 2), (8, 0)] (fun w' => Kept wr w') (by kernel_rfl) (by kernel_rfl) (by kernel_rfl) (by kernel_rfl) (fun _ _ d _ _ h => by cases d <;> exact h) ((Kept.refl _).drewN _) ?_
            repeat
              refine Ord.step rfl (fun Ko hK => ?_)
              simp only [Ord.body]
              go_simp
              first
                | (refine hK _ _ ?_; clear hK Ko)
                | (refine ⟨_, fun w' hS => (by have c0 := hS.cell w0; have c1 := hS.cell w1; have c2 := hS.cell d6; simp only [c0, c1, c2, Result.andThen]; rfl), hK _ _ ?_⟩; clear hK Ko)
                | (go_at_call 88; refine (AC.out _ (K2.out.trans ((Kept.refl _).drewN _))).mono ?_; rintro e w5 ⟨rfl, K5⟩; refine ⟨((Kept.refl _).drewN _).trans K5, hK _ _ ?_⟩; clear hK Ko)
                | ((simp only [qd]))
            refine Ord.done ?_
            have KN := hid_of (KWH.out.trans (K2.out.trans (((Kept.refl wr).drewN 1).trans K5)))
            clear K5
            go_wp2
            go_ret
            exact ⟨KN.out, .inr ⟨P.out, rfl⟩⟩
        · obtain rfl : v = N := by omega
          have KN := hid_of (KWH.out.trans K2.out)
          clear K w1
          go_wp2
          go_ret
          exact ⟨KN.out, .inl ⟨⟨RIS.out, HNO.out, HLT.out⟩, rfl⟩⟩
end Go.Proofs.YtkpfnkpkmbfajaaDoor
