/- VouchManySound answers true at every graph, every list of bounds, every list of edges with a set of the gadget's nodes, and every other list of edges: where edges are taken as most, with so many at each node, no others are more. Its condition: the library's table of places of bits is as the program's text lays it (the card ties it); the walk never reads it. -/
import Derived.Test.YtkpfnkpkmbfajaaDoorVqZ
import Derived.Test.YtkpfnkpkmbfajaaDoorVqO
import Derived.Test.YtkpfnkpkmbfajaaDoorVqD
import Derived.Test.YtkpfnkpkmbfajaaDoorTie
import Derived.Test.YtkpfnkpkmbfajaaDoorCards
import Derived.WalkKit
import Derived.ProofKit
import Derived.SizedLaws
import Derived.OpenShut
import Derived.ShutString
import Derived.ChangeOld
import Derived.Below
import Derived.SevenTiedAt
namespace Go.Proofs.YtkpfnkpkmbfajaaDoor.vouchManySound
open Go.ChangeShapes Go.WideShapes Go.ChangeAt Go.RowKit Go.Joins Go.Deep
set_option linter.unusedVariables false

theorem own : ownKnob Tryd.prog.godebug = none := by kernel_rfl
theorem laidOut : laidOutB Tryd.prog = true := by kernel_rfl

set_option maxRecDepth 100000 in
theorem lifted (os : Os) (started : os.Started) (H : Type) (enc : TypeId × Value → H) :
    ReturnsInHanded {} Tryd.checked os 11 .any (fun w args => (Rows.vouchManySoundSpec.pre enc Tryd.prog Tryd.f11 [] false w args ∧ laidMetH Tryd.prog [("math/bits.deBruijn64tab", Rows.laid_math_bits_deBruijn64tab)] w) ∧ sizedMet enc Tryd.prog Tryd.f11 (OpenSpec.ofChange Rows.vouchManySoundSpec) false w args)
      (Rows.vouchManySoundSpec.post enc Tryd.prog Tryd.f11 false true false false) := by
  refine returnsInHanded_of_change_and (C := Tryd.checked) (X := fun w _ => laidMetH Tryd.prog [("math/bits.deBruijn64tab", Rows.laid_math_bits_deBruijn64tab)] w) (fun _ _ _ hh h => h.of_heap hh) own started (by kernel_rfl) Tryd.func11
    (ChangeSpec.witness_shaped (enc := enc) (C := Tryd.checked) (os := os) (X := fun w _ => laidMetH Tryd.prog [("math/bits.deBruijn64tab", Rows.laid_math_bits_deBruijn64tab)] w) false (World.doorLaid Tryd.prog 400 os) #[.agg #[.int .i64 0, .slice none 0 0], .agg #[.slice none 0 0, .slice none 0 0, .slice none 0 0, .slice none 0 0]] 8 rfl (World.shaped_of_RefB (by kernel_rfl) (by kernel_rfl)) (by kernel_rfl) (by kernel_rfl) (by kernel_rfl) (door_met os _)) ?_
  intro W base args ds gs before hval0 hW _ hsz0 hL _
  have hval : ∀ (j : Nat) t v, Tryd.f11.params[j]? = some t → args[j]? = some v → Value.okWide Tryd.prog W .any base t v := hval0
  have hW' := hW
  obtain ⟨p, q, hA0, hV, rfl, hfz, hnd⟩ := hW
  have hA : DataW.TrodAll enc Tryd.prog W 0 (fun _ => true) true Tryd.f11.params.toList args.toList ds p := hA0
  rw [Tryd.params11] at hA hval
  obtain ⟨v0, vs0, d0, ds0, p0, q0, hargs, rfl, rfl, h0, r0⟩ := trodAll_cons hA
  obtain ⟨v1, vs1, d1, ds1, p1, q1, rfl, rfl, rfl, h1, r1⟩ := trodAll_cons r0
  obtain ⟨rfl, rfl, rfl⟩ := trodAll_nil r1
  obtain rfl : args = #[v0, v1] := by cases args; simp_all
  obtain ⟨rfl, rfl⟩ := trodVars_none hV
  have k0 := h0
  have lt0 : ∀ x ∈ p0, x.block < W.heap.size := by obtain ⟨m, hm⟩ := k0; exact DataW.trod_lt m _ _ _ hm
  obtain ⟨c00, c01, y00, y01, m0, rfl, rfl, rfl, hy00, hy01⟩ := open_agg2 Tryd.underlying24 (by kernel_rfl) cellsG (hval 0 24 v0 rfl rfl) h0
  obtain ⟨a00, e00, rfl, w00⟩ := DataW.trod_int Tryd.underlying3 hy00
  simp at e00
  subst e00
  obtain ⟨ao0, len0, cap0, e01⟩ := slice_form Tryd.underlying22 hy01
  simp at e01
  subst e01
  obtain ⟨⟨es0, hE0, _⟩, hnil0, hbulk0⟩ := open_edges hy01
  have k1 := h1
  have lt1 : ∀ x ∈ p1, x.block < W.heap.size := by obtain ⟨m, hm⟩ := k1; exact DataW.trod_lt m _ _ _ hm
  obtain ⟨c10, c11, c12, c13, y10, y11, y12, y13, m1, rfl, rfl, rfl, hy10, hy11, hy12, hy13⟩ := open_agg4 Tryd.underlying54 (by kernel_rfl) (by kernel_rfl) (hval 1 54 v1 rfl rfl) h1
  obtain ⟨ao10, len10, cap10, e10⟩ := slice_form Tryd.underlying25 hy10
  simp at e10
  subst e10
  obtain ⟨xs10, hR10⟩ := open_ints hy10
  obtain ⟨ao11, len11, cap11, e11⟩ := slice_form Tryd.underlying25 hy11
  simp at e11
  subst e11
  obtain ⟨xs11, hR11⟩ := open_ints hy11
  obtain ⟨ao12, len12, cap12, e12⟩ := slice_form Tryd.underlying25 hy12
  simp at e12
  subst e12
  obtain ⟨xs12, hR12⟩ := open_ints hy12
  obtain ⟨ao13, len13, cap13, e13⟩ := slice_form Tryd.underlying25 hy13
  simp at e13
  subst e13
  obtain ⟨xs13, hR13⟩ := open_ints hy13
  clear hA0 hval0
  refine (vouchManySoundWalk a00 ao0 len0 cap0 es0 ao10 len10 cap10 xs10 ao11 len11 cap11 xs11 ao12 len12 cap12 xs12 ao13 len13 cap13 xs13 W hE0 hR10 hR11 hR12 hR13).mono fun e W' ⟨he, bel⟩ => ?_
  subst he
  exact ⟨_, rfl, _, _, _, [], _, [], hW', (trodAll_cons_mk (shut_bool Tryd.underlying4 _) trodAll_mk0), (trodAll_cons_mk (Below.trod laidOut (by kernel_rfl) (of_decide_eq_true (by kernel_rfl)) k0 bel lt0) (trodAll_cons_mk (Below.trod laidOut (by kernel_rfl) (of_decide_eq_true (by kernel_rfl)) k1 bel lt1) trodAll_mk0)), rfl, bel.frame _, fun h => by cases h⟩

theorem over : Rows.VouchManySoundSaid :=
  OpenClaim.holds_of_wide 11 Tryd.f11 rfl rfl rfl rfl rfl rfl rfl ⟨rfl, rfl, rfl, rfl, rfl⟩ rfl rfl rfl rfl rfl (by kernel_rfl) Tryd.func11 (by kernel_rfl)
    (of_decide_eq_true (by kernel_rfl)) (by unfold Func.isWrapper; first | (rw [if_pos (by decide +kernel)]; kernel_rfl) | (rw [if_neg (by decide +kernel)]; exact ⟨rfl, rfl⟩))
    (fun os started H enc _ => lifted os started H enc)
end Go.Proofs.YtkpfnkpkmbfajaaDoor.vouchManySound

namespace Go.Proofs.YtkpfnkpkmbfajaaDoor

/-- The statement: the tied card. -/
theorem vouchManySoundHolds : Rows.VouchManySoundCardSaid :=
  Claim7.holds_tied_plain_at .later [] [.data] true (true, "1ee77a617945d33e3d75f6f835dbd8aff6fac7be2c3d7c0de74290fe8fe1eaec") true
    vouchManySound.over (fun _ h => by cases h) (by kernel_rfl) (fun _ h => by cases h) vouchManySound_row_tie rfl ⟨rfl, rfl⟩ (by kernel_rfl) rfl
    (fun f fn hf hfn => by
      obtain rfl : f = 11 := Option.some.inj ((show Tryd.prog.funcNamed "compass/compasslaw12.VouchManySound" = some 11 by kernel_rfl).symm.trans hf) |>.symm
      obtain rfl : fn = Tryd.f11 := (Option.some.inj (Tryd.func11.symm.trans hfn)).symm
      exact ⟨by kernel_rfl, fun j t ht => by
        rw [Tryd.params11] at ht
        have hm : t ∈ [24, 54] := by simpa using Array.mem_of_getElem? ht
        have hall : ([24, 54].all fun u => !Tryd.prog.wantsStandIn u) = true := by kernel_rfl
        exact (show Tryd.prog.wantsStandIn t = false by simpa using List.all_eq_true.1 hall t hm)⟩)
    (by kernel_rfl)

end Go.Proofs.YtkpfnkpkmbfajaaDoor
