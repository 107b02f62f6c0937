/- WalkMutual answers true at every graph and every two numbers: two nodes have one number in Strong just where each leads to the other, one in Parts where one leads to the other, and Strong of the graph turned about is the same. No condition. -/
import Derived.Test.YtjheiaegpoppaaaWalkMutualWalk
import Derived.Test.YtjheiaegpoppaaaRightW
import Derived.Test.YtjheiaegpoppaaaGraphOpen
namespace Go.Proofs.Ytjheiaegpoppaaa.walkMutual
open Go.ChangeShapes Go.WideShapes Go.ChangeAt Go.RowKit Go.Joins Go.Deep
set_option linter.unusedVariables false

theorem own : ownKnob Try.prog.godebug = none := by kernel_rfl
theorem laidOut : laidOutB Try.prog = true := by kernel_rfl

theorem walked (nodes : Int) (ao : Option Addr) (m cap : Nat) (es : List Ed) (w : World) (h : ERow w ao m cap es) (hm : m * 32 ≤ 140737488355328) (hnil : ao = none → m = 0 ∧ cap = 0) (u v : Int) :
    Calls Try.prog 8 #[.agg #[.int .i64 nodes, .slice ao m cap], .int .i64 u, .int .i64 v] w fun v w' => v = .returned (.bool true) ∧ Kept w w' := by
  obtain ⟨c, a, hf⟩ : ∃ c a, faultOf nodes es = (c, a) := ⟨_, _, rfl⟩
  by_cases hb : c ≠ 0
  · exact walkMutualBad nodes ao m cap es w h hm c a hf hb u v
  · have hc : c = 0 := by omega
    subst hc
    obtain ⟨h0, h1, h2, ha, h3⟩ := rightW_of hf
    subst ha
    obtain ⟨n, rfl⟩ : ∃ n : Nat, nodes = (n : Int) := ⟨nodes.toNat, by omega⟩
    have hm4 : m ≤ 4096 := by have := h.len; omega
    have LB : ∀ u : Int, u < 0 ∨ (n : Int) ≤ u → ∀ w, ERow w ao m cap es → Calls Try.prog 23 #[.agg #[.int .i64 (n : Int), .slice ao m cap], .int .i64 u] w fun r w' => ∃ bo l k, r = .returned (.tuple #[.slice bo l k, .int .i64 30]) ∧ Kept w w' := fun u hu w hE =>
      (levelsBad_calls (n : Int) ao m cap es w hE 0 0 hf u (.inr hu) 30 rfl).mono fun r w' ⟨e, K⟩ => ⟨none, 0, 0, e, K⟩
    have LG : ∀ u : Int, ¬ (u < 0 ∨ (n : Int) ≤ u) → ∀ w, ERow w ao m cap es → Calls Try.prog 23 #[.agg #[.int .i64 (n : Int), .slice ao m cap], .int .i64 u] w fun r w' => ∃ bo l k, r = .returned (.tuple #[.slice bo l k, .int .i64 0]) ∧ Kept w w' := fun u hu w hE => by
      obtain ⟨u', rfl⟩ : ∃ u' : Nat, u = (u' : Int) := ⟨u.toNat, by omega⟩
      exact (levels_calls n (by omega) ao m cap es w hE hf hm4 h3 u' (by omega)).mono fun r w' ⟨g, lv, e, _, _, _, K⟩ => ⟨_, _, _, e, K⟩
    by_cases hu : u < 0 ∨ (n : Int) ≤ u
    · by_cases hv : v < 0 ∨ (n : Int) ≤ v
      · exact walkMutualHalf n (by omega) ao m cap es w h hnil hf hm4 h3 u v 30 30 (LB u hu) (LB v hv) (.inl (by decide))
      · exact walkMutualHalf n (by omega) ao m cap es w h hnil hf hm4 h3 u v 30 0 (LB u hu) (LG v hv) (.inl (by decide))
    · by_cases hv : v < 0 ∨ (n : Int) ≤ v
      · exact walkMutualHalf n (by omega) ao m cap es w h hnil hf hm4 h3 u v 0 30 (LG u hu) (LB v hv) (.inr ⟨rfl, by decide⟩)
      · obtain ⟨u', rfl⟩ : ∃ u' : Nat, u = (u' : Int) := ⟨u.toNat, by omega⟩
        obtain ⟨v', rfl⟩ : ∃ v' : Nat, v = (v' : Int) := ⟨v.toNat, by omega⟩
        exact walkMutualGood n (by omega) ao m cap es w h hnil hf hm4 h3 u' v' (by omega) (by omega)

set_option maxRecDepth 100000 in
theorem lifted (os : Os) (started : os.Started) (H : Type) (enc : TypeId × Value → H) :
    ReturnsInHanded {} Try.checked os 8 .any (Rows.walkMutualSpec.pre6 enc Try.prog Try.f8 Rows.walkMutualRow.domain false) (Rows.walkMutualSpec.post enc Try.prog Try.f8 false true false false) := by
  refine returnsInHanded_of_change_sized (C := Try.checked) own started (by kernel_rfl) Try.func8
    (ChangeSpec.witness6 (enc := enc) (C := Try.checked) false ⟨#[], #[.agg #[.int .i64 0, .slice none 0 0], .int .i64 0, .int .i64 0], []⟩ 8 (by kernel_rfl) (by kernel_rfl) (by kernel_rfl) (by kernel_rfl)) ?_
  intro W base args ds gs before hval0 hW hcnd hsz0 _
  have hsz : (DataW.weightsEach Try.prog (Try.f8.params.toList ++ Rows.walkMutualSpec.plain.varTypes Try.prog) (ds ++ gs)).all (· ≤ reachBytes) = true := hsz0
  clear hsz0
  have hval : ∀ (j : Nat) t v, Try.f8.params[j]? = some t → args[j]? = some v → Value.okWide Try.prog W .any base t v := hval0
  have hW' := hW
  obtain ⟨p, q, hA0, hV, rfl, hfz, hnd⟩ := hW
  have hA : DataW.TrodAll enc Try.prog W 0 (fun _ => true) true Try.f8.params.toList args.toList ds p := hA0
  rw [Try.params8] at hA hval hsz
  obtain ⟨v0, vs0, d0, ds0, p0, q0, hargs, rfl, rfl, h0, r0⟩ := trodAll_cons hA
  obtain ⟨v1, vs1, d1, ds1, p1, q1, rfl, rfl, rfl, h1, r1⟩ := trodAll_cons r0
  obtain ⟨v2, vs2, d2, ds2, p2, q2, rfl, rfl, rfl, h2, r2⟩ := trodAll_cons r1
  obtain ⟨rfl, rfl, rfl⟩ := trodAll_nil r2
  obtain rfl : args = #[v0, v1, v2] := by cases args; simp_all
  obtain ⟨rfl, rfl⟩ := trodVars_none hV
  have k0 := h0
  have lt0 : ∀ x ∈ p0, x.block < W.heap.size := by obtain ⟨m, hm⟩ := k0; exact DataW.trod_lt m _ _ _ hm
  obtain ⟨c0, c1, y0, y1, m, rfl, rfl, rfl, hy0, hy1⟩ := open_agg2 Try.underlying24 (by kernel_rfl) cellsG (hval 0 24 v0 rfl rfl) h0
  obtain ⟨a0, e0, rfl, w0⟩ := DataW.trod_int Try.underlying3 hy0
  simp at e0
  subst e0
  obtain ⟨ao, len, cap, e1⟩ := slice_form Try.underlying22 hy1
  simp at e1
  subst e1
  obtain ⟨⟨es, hE, _⟩, hnil, hbulk⟩ := open_edges hy1
  have hn : len * 32 ≤ 140737488355328 := by
    rcases hbulk with ⟨_, rfl⟩ | ⟨elems, spare, hd, hl, hc⟩
    · omega
    · have hs := List.all_eq_true.1 hsz _ (DataW.weights_mem_each (j := 0) (t := 24) rfl rfl ((elems.length + spare.length) * Try.prog.bytesOf 42) (by simp [DataW.weights, DataW.weightsEach, Try.underlying24, Try.underlying22, hd]))
      have hs' : (elems.length + spare.length) * Try.prog.bytesOf 42 ≤ reachBytes := of_decide_eq_true hs
      rw [bytesE] at hs'
      unfold reachBytes at hs'
      omega
  obtain ⟨a1, rfl, rfl, rfl, w1⟩ := open_int Try.underlying3 (hval 1 3 v1 rfl rfl) h1
  obtain ⟨a2, rfl, rfl, rfl, w2⟩ := open_int Try.underlying3 (hval 2 3 v2 rfl rfl) h2
  clear hA0 hval0
  refine (walked a0 ao len cap es W hE hn hnil a1 a2).mono fun e W' ⟨he, bel⟩ => ?_
  subst he
  exact ⟨_, rfl, _, _, _, [], _, [], hW', (trodAll_cons_mk (shut_bool Try.underlying4 _) trodAll_mk0), (trodAll_cons_mk (Below.trod laidOut (by kernel_rfl) (of_decide_eq_true (by kernel_rfl)) k0 bel lt0) (trodAll_cons_mk (shut_int Try.underlying3 w1) (trodAll_cons_mk (shut_int Try.underlying3 w2) trodAll_mk0))), rfl, bel.frame _, fun h => by cases h⟩

theorem over : Rows.WalkMutualSaid :=
  OpenClaim.holds_of_wide 8 Try.f8 rfl rfl rfl rfl rfl rfl rfl ⟨rfl, rfl, rfl, rfl, rfl⟩ rfl rfl rfl rfl rfl (by kernel_rfl) Try.func8 (by kernel_rfl)
    (of_decide_eq_true (by kernel_rfl)) (by unfold Func.isWrapper; first | (rw [if_pos (by decide +kernel)]; kernel_rfl) | (rw [if_neg (by decide +kernel)]; exact ⟨rfl, rfl⟩))
    (fun os started H enc _ => lifted os started H enc)
end Go.Proofs.Ytjheiaegpoppaaa.walkMutual

namespace Go.Proofs.Ytjheiaegpoppaaa

/-- The statement. -/
theorem walkMutualHolds : Rows.WalkMutualSaid :=
  walkMutual.over

end Go.Proofs.Ytjheiaegpoppaaa
