/- SafeSums: the walk of the law. -/
import Derived.Test.YtalofkabkcpicaaSumsRef
import Derived.Test.YtalofkabkcpicaaAwake
import Derived.OpenShut
namespace Go.Proofs.Ytalofkabkcpicaa
open Go.RowKit Go.ChangeShapes Go.WideShapes Go.ChangeAt

theorem irow_nil (w : World) : IRow w none 0 0 [] := ⟨rfl, by omega, fun k => by simp, fun h => by omega⟩

theorem irow_some (x : Addr) (len cap : Nat) (zs : List Int) (w : World) (hl : len ≤ cap) (hm : cap ≤ maxLen) (hz : zs.length = cap) (hcell : ∀ i, i < zs.length → w.cell? (x.add i) = some (.int .i64 (zs.getD i 0))) (hwz : ∀ n ∈ zs, (Lit.int .i64 n).wf = true) :
    IRow w (some x) len cap (zs.take len) := by
  unfold maxLen at hm
  refine ⟨by simp; omega, by omega, fun k => ?_, fun hn => ?_⟩
  · by_cases hk : k < (zs.take len).length
    · have hmem : (zs.take len).getD k 0 ∈ zs := by
        have e : (zs.take len).getD k 0 = (zs.take len)[k] := by simp [List.getD, List.getElem?_eq_getElem hk]
        rw [e]
        exact List.mem_of_mem_take (List.getElem_mem hk)
      exact bounds_i64 (hwz _ hmem)
    · have e : (zs.take len).getD k 0 = 0 := by simp only [List.getD]; rw [List.getElem?_eq_none (by omega)]; rfl
      rw [e]; omega
  · obtain ⟨b, off, spot⟩ := x
    have h0 := hcell 0 (by omega)
    have hspot : spot = none := by simpa [Addr.add] using World.cell?_spot h0
    subst hspot
    refine ⟨b, off, rfl, fun i hi => ?_⟩
    have h1 := hcell i (by omega)
    have e : (zs.take len).getD i 0 = zs.getD i 0 := by simp [List.getD, hi]
    rw [e]
    by_cases hi0 : i = 0
    · subst hi0; simpa [Addr.add] using h1
    · simpa [Addr.add, hi0] using h1

set_option maxRecDepth 100000 in
set_option maxHeartbeats 2000000 in
theorem safeSumsWalk (a0 : Option Addr) (n cap : Nat) (zs : List Int) (a1 : Int) (w : World) (h : IRow w a0 n cap zs) (w1 : (Lit.int .i64 a1).wf = true) :
    Calls Try.prog 6 #[.slice a0 n cap, .int .i64 a1] w fun e w' => e = .returned (.bool true) ∧ Kept w w' := by
  obtain ⟨b1, b1'⟩ := bounds_i64 w1
  have hnot : ∀ (x : Bool) (w : World), (Op.unary .not (.bool x)).run Try.prog w = .ok (.bool (!x)) w := fun _ _ => rfl
  go_enter Try.func6, Try.ntmps6
  go_wp2_with fail
  refine (awake_calls _).mono ?_
  rintro e wa ⟨rfl, K1⟩
  go_wp2_with fail
  refine (sum_calls a0 n cap zs _ (h.kept K1)).mono ?_
  rintro e wb ⟨rfl, K2⟩
  generalize hs : narrow (sumTo zs n) = s
  have HS := hid_of hs
  clear hs
  go_wp2_with fail
  refine (sumR_calls a0 n cap zs _ (h.kept (K1.trans K2))).mono ?_
  rintro e wc ⟨rfl, K3⟩
  rw [HS.out]
  go_wp2_with fail
  refine (poly_calls a0 n cap zs a1 _ (h.kept ((K1.trans K2).trans K3)) b1 b1').mono ?_
  rintro e wd ⟨rfl, K4⟩
  generalize hp : polyAt zs a1 n = p
  have HP := hid_of hp
  clear hp
  go_wp2_with fail
  refine (polyR_calls a0 n cap zs a1 _ (h.kept (((K1.trans K2).trans K3).trans K4)) b1 b1').mono ?_
  rintro e we ⟨rfl, K5⟩
  rw [HP.out]
  go_wp2
  go_ret
  exact ⟨rfl, (((K1.trans K2).trans K3).trans K4).trans K5⟩
end Go.Proofs.Ytalofkabkcpicaa
