/- What a circle costs, as the document has it. -/
import Derived.Test.YtomopfjaebcpeaaRfJ
namespace Go.Proofs.Ytomopfjaebcpeaa
open Go.RowKit

set_option maxRecDepth 100000 in
set_option linter.unusedSimpArgs false in
set_option maxHeartbeats 4000000 in
theorem costL_calls (N : Nat) (ao : Option Addr) (n cap : Nat) (es : List Ed) (oo : Option Addr) (L oc : Nat) (c : List Int) (w : World) (h : ERow w ao n cap es) (hO : JRow w oo L oc c) (RG : Right N n es) (hr : ∀ j, j < L → 0 ≤ zAt c j ∧ zAt c j < (n : Int)) (hL : L ≤ 1024) :
    Calls Try.prog 38 #[.agg #[.int .i64 (N : Int), .slice ao n cap], .slice oo L oc] w fun e w' => e = .returned (.int .i64 (csum es c L)) ∧ Kept w w' := by
  have hr1 := h.room
  have hm1 := h.most
  have hr2 := hO.room
  have hm2 := hO.most
  unfold maxLen at hm1 hm2
  have hn := RG.edges
  have KW : Kept w (w.alloc (Obj.cells #[.int .i64 (N : Int), .slice ao n cap] 24)) := (Kept.refl w).alloc _
  have w1 : (w.alloc (Obj.cells #[.int .i64 (N : Int), .slice ao n cap] 24)).cell? ⟨w.heap.size, 1, none⟩ = some (.slice ao n cap) := by simp [go_sem]
  have HE := hid_of (h.kept KW)
  have HO := hid_of (hO.kept KW)
  have RGH := hid_of RG
  have HR := hid_of hr
  clear h hO RG hr
  go_enter Try.func38, Try.ntmps38
  go_wp2_with fail
  generalize w.alloc (Obj.cells #[.int .i64 (N : Int), .slice ao n cap] 24) = W1 at KW w1 HE HO ⊢
  go_loopw [5, 6] (fun s i wr => ∃ (j : Nat), j ≤ L ∧ i = .int .i64 j ∧ s = .int .i64 (csum es c j) ∧ Kept W1 wr) (fun _ i _ => L - (intOf i).toNat)
  case atStart => exact ⟨0, by omega, rfl, rfl, Kept.refl _⟩
  case round =>
    obtain ⟨j, hj, rfl, rfl, K⟩ := hrel
    by_cases hgo : (j : Int) < (L : Int)
    · obtain ⟨b2, off2, rfl, hc2⟩ := (HO.out.kept K).at (by omega)
      have d5 := hc2 j (by omega)
      obtain ⟨r1, r2⟩ := HR.out j (by omega)
      obtain ⟨b, off, rfl, hc⟩ := (HE.out.kept K).cell (by omega)
      obtain ⟨-, -, -, d4⟩ := hc (zAt c j).toNat (by omega)
      obtain ⟨k1, k2⟩ := RGH.out.costs (zAt c j).toNat (by omega)
      obtain ⟨s1, s2⟩ := csum_bd RGH.out HR.out j hj
      have SU := hid_of (csum_succ es c j)
      have v1 := K.cell w1
      clear hc hc2
      generalize csum es c j = sum at s1 s2 SU
      obtain ⟨q, hq⟩ : ∃ q : Nat, zAt c j = (q : Int) := ⟨(zAt c j).toNat, by omega⟩
      rw [hq] at d5 r1 r2 d4 k1 k2 SU
      simp only [Int.toNat_natCast] at d4 k1 k2 SU
      clear hq
      generalize edAt es q = e at d4 k1 k2 SU
      obtain ⟨ef, et, ec, ek⟩ := e
      simp only at d4 k1 k2 SU
      have WR : IntKind.i64.wrap (sum + ek) = sum + ek := wrap_id (by omega) (by omega)
      clear s1 s2 k1 k2
      go_upto_region 5 with fail
      refine Ord.region [(0, 0), (1, 0), (2, 1), (3, 0), (4, 0), (5, 0), (6, 1), (7, 0), (8, 0), (9, 1), (10, 0), (11, 0)] (fun w' => Kept wr w') (by kernel_rfl) (by kernel_rfl) (by kernel_rfl) (by kernel_rfl) (fun _ _ d _ _ h => by cases d <;> exact h) ((Kept.refl _).drewN _) ?_
      repeat
        refine Ord.step rfl (fun Ko hK => ?_)
        simp only [Ord.body]
        go_simp
        first
          | (refine hK _ _ ?_; clear hK Ko)
          | (refine ⟨_, fun w' hS => (by have c0 := hS.cell v1; have c1 := hS.cell d4; have c2 := hS.cell d5; simp only [c0, c1, c2, Result.andThen]; rfl), hK _ _ ?_⟩; clear hK Ko)
      refine Ord.done ?_
      go_wp2
      go_roundw
      case rel => exact ⟨j + 1, by omega, by go_num, by rw [SU.out], K.drewN _⟩
      case measure => simp [intOf]; omega
    · obtain rfl : j = L := by omega
      go_wp2
      go_ret
      exact ⟨rfl, KW.trans K⟩
end Go.Proofs.Ytomopfjaebcpeaa
