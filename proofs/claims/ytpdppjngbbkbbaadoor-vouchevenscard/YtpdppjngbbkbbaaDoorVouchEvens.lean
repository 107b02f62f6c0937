/- VouchEvens answers true at every graph, all edges walked twice with a metric: Doubled answers as the document does. Its condition: the library table of places of bits is as the program text lays it (the card ties it); the walk reads it where a set has both nodes. -/
import Derived.Test.YtpdppjngbbkbbaaDoorVqJ
import Derived.Test.YtpdppjngbbkbbaaDoorVqL
import Derived.Test.YtpdppjngbbkbbaaDoorTie
import Derived.Test.YtpdppjngbbkbbaaDoorCards
import Derived.WalkKit
import Derived.ProofKit
import Derived.SizedLaws
import Derived.OpenShut
import Derived.ShutString
import Derived.ChangeOld
import Derived.Below
import Derived.SevenTiedAt
namespace Go.Proofs.YtpdppjngbbkbbaaDoor.vouchEvens
open Go.ChangeShapes Go.WideShapes Go.ChangeAt Go.RowKit Go.Joins Go.Deep
set_option linter.unusedVariables false

theorem own : ownKnob Tryd.prog.godebug = none := by kernel_rfl
theorem laidOut : laidOutB Tryd.prog = true := by kernel_rfl

set_option maxRecDepth 100000 in
theorem lifted (os : Os) (started : os.Started) (H : Type) (enc : TypeId × Value → H) :
    ReturnsInHanded {} Tryd.checked os 7 .any (fun w args => (Rows.vouchEvensSpec.pre enc Tryd.prog Tryd.f7 [] false w args ∧ laidMetH Tryd.prog [("math/bits.deBruijn64tab", Rows.laid_math_bits_deBruijn64tab)] w) ∧ sizedMet enc Tryd.prog Tryd.f7 (OpenSpec.ofChange Rows.vouchEvensSpec) false w args)
      (Rows.vouchEvensSpec.post enc Tryd.prog Tryd.f7 false true false false) := by
  refine returnsInHanded_of_change_and (C := Tryd.checked) (X := fun w _ => laidMetH Tryd.prog [("math/bits.deBruijn64tab", Rows.laid_math_bits_deBruijn64tab)] w) (fun _ _ _ hh h => h.of_heap hh) own started (by kernel_rfl) Tryd.func7
    (ChangeSpec.witness_shaped (enc := enc) (C := Tryd.checked) (os := os) (X := fun w _ => laidMetH Tryd.prog [("math/bits.deBruijn64tab", Rows.laid_math_bits_deBruijn64tab)] w) false (World.doorLaid Tryd.prog 400 os) #[.agg #[.int .i64 0, .slice none 0 0], .agg #[.slice none 0 0, .slice none 0 0, .slice none 0 0, .slice none 0 0, .slice none 0 0]] 8 rfl (World.shaped_of_RefB (by kernel_rfl) (by kernel_rfl)) (by kernel_rfl) (by kernel_rfl) (by kernel_rfl) (door_met os _)) ?_
  intro W base args ds gs before hval0 hW _ hsz0 hL _
  have hsz : (DataW.weightsEach Tryd.prog (Tryd.f7.params.toList ++ Rows.vouchEvensSpec.plain.varTypes Tryd.prog) (ds ++ gs)).all (· ≤ reachBytes) = true := hsz0
  have hval : ∀ (j : Nat) t v, Tryd.f7.params[j]? = some t → args[j]? = some v → Value.okWide Tryd.prog W .any base t v := hval0
  have hW' := hW
  obtain ⟨p, q, hA0, hV, rfl, hfz, hnd⟩ := hW
  have hA : DataW.TrodAll enc Tryd.prog W 0 (fun _ => true) true Tryd.f7.params.toList args.toList ds p := hA0
  rw [Tryd.params7] at hA hval hsz
  obtain ⟨v0, vs0, d0, ds0, p0, q0, hargs, rfl, rfl, h0, r0⟩ := trodAll_cons hA
  obtain ⟨v1, vs1, d1, ds1, p1, q1, rfl, rfl, rfl, h1, r1⟩ := trodAll_cons r0
  obtain ⟨rfl, rfl, rfl⟩ := trodAll_nil r1
  obtain rfl : args = #[v0, v1] := by cases args; simp_all
  obtain ⟨rfl, rfl⟩ := trodVars_none hV
  have k0 := h0
  have lt0 : ∀ x ∈ p0, x.block < W.heap.size := by obtain ⟨m, hm⟩ := k0; exact DataW.trod_lt m _ _ _ hm
  obtain ⟨c00, c01, y00, y01, m0, rfl, rfl, rfl, hy00, hy01⟩ := open_agg2 Tryd.underlying24 (by kernel_rfl) cellsG (hval 0 24 v0 rfl rfl) h0
  obtain ⟨a00, e00, rfl, w00⟩ := DataW.trod_int Tryd.underlying3 hy00
  simp at e00
  subst e00
  obtain ⟨ao0, len0, cap0, e01⟩ := slice_form Tryd.underlying22 hy01
  simp at e01
  subst e01
  obtain ⟨⟨es0, hE0, _⟩, hnil0, hbulk0⟩ := open_edges hy01
  have k1 := h1
  have lt1 : ∀ x ∈ p1, x.block < W.heap.size := by obtain ⟨m, hm⟩ := k1; exact DataW.trod_lt m _ _ _ hm
  obtain ⟨mo_1, lm_1, mc_1, m_1, dO_1, nd_1, dc_1, ds_1, yo_1, my_1, yc_1, Y_1, so_1, ns_1, sc_1, ss_1, oo_1, lo_1, oc_1, o_1, rfl, hM_1, hD_1, hY_1, hS_1, hO_1, hbk_1⟩ := open_even (hval 1 67 v1 rfl rfl) h1
  have hbd_1 : ns_1 * 32 ≤ 140737488355328 := by
    rcases hbk_1 with hk | ⟨d0, d1, dY, d2, elems, spare, hd, hl⟩
    · omega
    · have hs := List.all_eq_true.1 hsz _ (DataW.weights_mem_each (j := 1) (t := 67) rfl rfl ((elems.length + spare.length) * Tryd.prog.bytesOf 110) (by simp [DataW.weights, DataW.weightsEach, Tryd.underlying67, Tryd.underlying65, Tryd.underlying45, Tryd.underlying43, hd]))
      have hs' : (elems.length + spare.length) * Tryd.prog.bytesOf 110 ≤ reachBytes := of_decide_eq_true hs
      rw [bytesB] at hs'
      unfold reachBytes at hs'
      omega
  clear hA0 hval0
  refine (vouchEvensWalk a00 ao0 len0 cap0 es0 mo_1 lm_1 mc_1 m_1 dO_1 nd_1 dc_1 ds_1 yo_1 my_1 yc_1 Y_1 so_1 ns_1 sc_1 ss_1 oo_1 lo_1 oc_1 o_1 W hE0 hM_1 hD_1 hY_1 hS_1 hO_1 hbd_1 (of_laid hL)).mono fun e W' ⟨he, bel⟩ => ?_
  subst he
  exact ⟨_, rfl, _, _, _, [], _, [], hW', (trodAll_cons_mk (shut_bool Tryd.underlying4 _) trodAll_mk0), (trodAll_cons_mk (Below.trod laidOut (by kernel_rfl) (of_decide_eq_true (by kernel_rfl)) k0 bel lt0) (trodAll_cons_mk (Below.trod laidOut (by kernel_rfl) (of_decide_eq_true (by kernel_rfl)) k1 bel lt1) trodAll_mk0)), rfl, bel.frame _, fun h => by cases h⟩

theorem over : Rows.VouchEvensSaid :=
  OpenClaim.holds_of_wide 7 Tryd.f7 rfl rfl rfl rfl rfl rfl rfl ⟨rfl, rfl, rfl, rfl, rfl⟩ rfl rfl rfl rfl rfl (by kernel_rfl) Tryd.func7 (by kernel_rfl)
    (of_decide_eq_true (by kernel_rfl)) (by unfold Func.isWrapper; first | (rw [if_pos (by decide +kernel)]; kernel_rfl) | (rw [if_neg (by decide +kernel)]; exact ⟨rfl, rfl⟩))
    (fun os started H enc _ => lifted os started H enc)
end Go.Proofs.YtpdppjngbbkbbaaDoor.vouchEvens

namespace Go.Proofs.YtpdppjngbbkbbaaDoor

/-- The statement: the tied card. -/
theorem vouchEvensHolds : Rows.VouchEvensCardSaid :=
  Claim7.holds_tied_plain_at .later [] [.data] true (true, "1ee77a617945d33e3d75f6f835dbd8aff6fac7be2c3d7c0de74290fe8fe1eaec") true
    vouchEvens.over (fun _ h => by cases h) (by kernel_rfl) (fun _ h => by cases h) vouchEvens_row_tie rfl ⟨rfl, rfl⟩ (by kernel_rfl) rfl
    (fun f fn hf hfn => by
      obtain rfl : f = 7 := Option.some.inj ((show Tryd.prog.funcNamed "compass/compasslaw12.VouchEvens" = some 7 by kernel_rfl).symm.trans hf) |>.symm
      obtain rfl : fn = Tryd.f7 := (Option.some.inj (Tryd.func7.symm.trans hfn)).symm
      exact ⟨by kernel_rfl, fun j t ht => by
        rw [Tryd.params7] at ht
        have hm : t ∈ [24, 67] := by simpa using Array.mem_of_getElem? ht
        have hall : ([24, 67].all fun u => !Tryd.prog.wantsStandIn u) = true := by kernel_rfl
        exact (show Tryd.prog.wantsStandIn t = false by simpa using List.all_eq_true.1 hall t hm)⟩)
    (by kernel_rfl)

end Go.Proofs.YtpdppjngbbkbbaaDoor
