/- ProofMeanSound answers true at every graph, every circle with potentials, every other circle and every order: where Mean takes a circle no other circle has a lesser mean, and where Acyclic takes an order there is no circle. No condition. -/
import Derived.Test.YtomopfjaebcpeaaProofMeanWalk
import Derived.Test.YtomopfjaebcpeaaRowsOpen
namespace Go.Proofs.Ytomopfjaebcpeaa.proofMeanSound
open Go.ChangeShapes Go.WideShapes Go.ChangeAt Go.RowKit Go.Joins Go.Deep
set_option linter.unusedVariables false

theorem own : ownKnob Try.prog.godebug = none := by kernel_rfl
theorem laidOut : laidOutB Try.prog = true := by kernel_rfl

set_option maxRecDepth 100000 in
theorem lifted (os : Os) (started : os.Started) (H : Type) (enc : TypeId × Value → H) :
    ReturnsInHanded {} Try.checked os 9 .any (Rows.proofMeanSoundSpec.pre6 enc Try.prog Try.f9 Rows.proofMeanSoundRow.domain false) (Rows.proofMeanSoundSpec.post enc Try.prog Try.f9 false true false false) := by
  refine returnsInHanded_of_change_sized (C := Try.checked) own started (by kernel_rfl) Try.func9
    (ChangeSpec.witness6 (enc := enc) (C := Try.checked) false ⟨#[], #[.agg #[.int .i64 0, .slice none 0 0], .agg #[.slice none 0 0, .slice none 0 0], .agg #[.slice none 0 0, .slice none 0 0]], []⟩ 8 (by kernel_rfl) (by kernel_rfl) (by kernel_rfl) (by kernel_rfl)) ?_
  intro W base args ds gs before hval0 hW hcnd hsz0 _
  have hval : ∀ (j : Nat) t v, Try.f9.params[j]? = some t → args[j]? = some v → Value.okWide Try.prog W .any base t v := hval0
  have hW' := hW
  obtain ⟨p, q, hA0, hV, rfl, hfz, hnd⟩ := hW
  have hA : DataW.TrodAll enc Try.prog W 0 (fun _ => true) true Try.f9.params.toList args.toList ds p := hA0
  rw [Try.params9] at hA hval
  obtain ⟨v0, vs0, d0, ds0, p0, q0, hargs, rfl, rfl, h0, r0⟩ := trodAll_cons hA
  obtain ⟨v1, vs1, d1, ds1, p1, q1, rfl, rfl, rfl, h1, r1⟩ := trodAll_cons r0
  obtain ⟨v2, vs2, d2, ds2, p2, q2, rfl, rfl, rfl, h2, r2⟩ := trodAll_cons r1
  obtain ⟨rfl, rfl, rfl⟩ := trodAll_nil r2
  obtain rfl : args = #[v0, v1, v2] := by cases args; simp_all
  obtain ⟨rfl, rfl⟩ := trodVars_none hV
  have k0 := h0
  have lt0 : ∀ x ∈ p0, x.block < W.heap.size := by obtain ⟨m, hm⟩ := k0; exact DataW.trod_lt m _ _ _ hm
  obtain ⟨c00, c01, y00, y01, m0, rfl, rfl, rfl, hy00, hy01⟩ := open_agg2 Try.underlying24 (by kernel_rfl) cellsG (hval 0 24 v0 rfl rfl) h0
  obtain ⟨a00, e00, rfl, w00⟩ := DataW.trod_int Try.underlying3 hy00
  simp at e00
  subst e00
  obtain ⟨ao0, len0, cap0, e01⟩ := slice_form Try.underlying22 hy01
  simp at e01
  subst e01
  obtain ⟨⟨es0, hE0, _⟩, hnil0, hbulk0⟩ := open_edges hy01
  have k1 := h1
  have lt1 : ∀ x ∈ p1, x.block < W.heap.size := by obtain ⟨m, hm⟩ := k1; exact DataW.trod_lt m _ _ _ hm
  obtain ⟨c10, c11, y10, y11, m1, rfl, rfl, rfl, hy10, hy11⟩ := open_agg2 Try.underlying45 (by kernel_rfl) (by kernel_rfl) (hval 1 45 v1 rfl rfl) h1
  obtain ⟨ao10, len10, cap10, e10⟩ := slice_form Try.underlying43 hy10
  simp at e10
  subst e10
  obtain ⟨xs10, hR10⟩ := open_ints hy10
  obtain ⟨ao11, len11, cap11, e11⟩ := slice_form Try.underlying25 hy11
  simp at e11
  subst e11
  obtain ⟨xs11, hR11⟩ := open_longs hy11
  have k2 := h2
  have lt2 : ∀ x ∈ p2, x.block < W.heap.size := by obtain ⟨m, hm⟩ := k2; exact DataW.trod_lt m _ _ _ hm
  obtain ⟨c20, c21, y20, y21, m2, rfl, rfl, rfl, hy20, hy21⟩ := open_agg2 Try.underlying73 (by kernel_rfl) (by kernel_rfl) (hval 2 73 v2 rfl rfl) h2
  obtain ⟨ao20, len20, cap20, e20⟩ := slice_form Try.underlying43 hy20
  simp at e20
  subst e20
  obtain ⟨xs20, hR20⟩ := open_ints hy20
  obtain ⟨ao21, len21, cap21, e21⟩ := slice_form Try.underlying43 hy21
  simp at e21
  subst e21
  obtain ⟨xs21, hR21⟩ := open_ints hy21
  clear hA0 hval0
  refine (proofMeanWalk a00 ao0 len0 cap0 es0 ao10 len10 cap10 xs10 ao11 len11 cap11 xs11 ao20 len20 cap20 xs20 ao21 len21 cap21 xs21 W hE0 hR10 hR11 hR20 hR21).mono fun e W' ⟨he, bel⟩ => ?_
  subst he
  exact ⟨_, rfl, _, _, _, [], _, [], hW', (trodAll_cons_mk (shut_bool Try.underlying4 _) trodAll_mk0), (trodAll_cons_mk (Below.trod laidOut (by kernel_rfl) (of_decide_eq_true (by kernel_rfl)) k0 bel lt0) (trodAll_cons_mk (Below.trod laidOut (by kernel_rfl) (of_decide_eq_true (by kernel_rfl)) k1 bel lt1) (trodAll_cons_mk (Below.trod laidOut (by kernel_rfl) (of_decide_eq_true (by kernel_rfl)) k2 bel lt2) trodAll_mk0))), rfl, bel.frame _, fun h => by cases h⟩

theorem over : Rows.ProofMeanSoundSaid :=
  OpenClaim.holds_of_wide 9 Try.f9 rfl rfl rfl rfl rfl rfl rfl ⟨rfl, rfl, rfl, rfl, rfl⟩ rfl rfl rfl rfl rfl (by kernel_rfl) Try.func9 (by kernel_rfl)
    (of_decide_eq_true (by kernel_rfl)) (by unfold Func.isWrapper; first | (rw [if_pos (by decide +kernel)]; kernel_rfl) | (rw [if_neg (by decide +kernel)]; exact ⟨rfl, rfl⟩))
    (fun os started H enc _ => lifted os started H enc)
end Go.Proofs.Ytomopfjaebcpeaa.proofMeanSound

namespace Go.Proofs.Ytomopfjaebcpeaa

/-- The statement. -/
theorem proofMeanSoundHolds : Rows.ProofMeanSoundSaid :=
  proofMeanSound.over

end Go.Proofs.Ytomopfjaebcpeaa
