/- ProofPlans and ProofPlanSound: the walks of the laws. -/
import Derived.Test.YtfgkneoimgknmaaPrS
import Derived.Test.YtfgkneoimgknmaaRfF
namespace Go.Proofs.Ytfgkneoimgknmaa
open Go.RowKit

set_option maxRecDepth 100000 in
set_option linter.unusedSimpArgs false in
set_option maxHeartbeats 2000000 in
theorem proofPlansWalk (nodes : Int) (ao : Option Addr) (n cap : Nat) (es : List Ed) (bs : Option Addr) (ms cs : Nat) (sup : List Int) (bo : Option Addr) (m bc : Nat) (on : List Int) (po : Option Addr) (mp pc : Nat) (pot : List Int) (so : Option Addr) (k sc : Nat) (side : List Bool) (w : World) (h : ERow w ao n cap es) (hS : JRow w bs ms cs sup) (hJ : JRow w bo m bc on) (hP : JRow w po mp pc pot) (hB : BRow w so k sc side) :
    Calls Try.prog 4 #[.agg #[.int .i64 nodes, .slice ao n cap], .agg #[.slice bs ms cs, .slice bo m bc, .slice po mp pc], .slice so k sc] w fun e w' => e = .returned (.bool true) ∧ Kept w w' := by
  obtain ⟨v, code, hans⟩ : ∃ v code, planAns nodes es n sup ms on m pot mp = (v, code) := ⟨_, _, rfl⟩
  obtain ⟨z, hno⟩ : ∃ z, noAns nodes es n sup ms side k = z := ⟨_, rfl⟩
  have hnot : ∀ (x : Bool) (w : World), (Op.unary .not (.bool x)).run Try.prog w = .ok (.bool (!x)) w := fun _ _ => rfl
  have KW : Kept w ((w.alloc (Obj.cells #[.int .i64 nodes, .slice ao n cap] 24)).alloc (Obj.cells #[.slice bs ms cs, .slice bo m bc, .slice po mp pc] 37)) := ((Kept.refl w).alloc _).alloc _
  have hG : GBox ((w.alloc (Obj.cells #[.int .i64 nodes, .slice ao n cap] 24)).alloc (Obj.cells #[.slice bs ms cs, .slice bo m bc, .slice po mp pc] 37)) w.heap.size nodes ao n cap := ⟨by simp [go_sem], by simp [go_sem]⟩
  have hF : Box3 ((w.alloc (Obj.cells #[.int .i64 nodes, .slice ao n cap] 24)).alloc (Obj.cells #[.slice bs ms cs, .slice bo m bc, .slice po mp pc] 37)) (w.heap.size + 1) (.slice bs ms cs) (.slice bo m bc) (.slice po mp pc) := ⟨by simp [go_sem], by simp [go_sem], by simp [go_sem]⟩
  obtain ⟨g0, g1⟩ := hG
  obtain ⟨f0, f1, f2⟩ := hF
  have HE := hid_of h
  have HS := hid_of hS
  have HJ := hid_of hJ
  have HP := hid_of hP
  have HB := hid_of hB
  have HA := hid_of hans
  have HN := hid_of hno
  clear h hS hJ hP hB hans hno
  go_enter Try.func4, Try.ntmps4
  go_wp2_with fail
  generalize (w.alloc (Obj.cells #[.int .i64 nodes, .slice ao n cap] 24)).alloc (Obj.cells #[.slice bs ms cs, .slice bo m bc, .slice po mp pc] 37) = W1 at KW g0 g1 f0 f1 f2 ⊢
  refine (awake_calls W1).mono ?_
  rintro e wa ⟨rfl, K1⟩
  replace g0 := K1.cell g0
  replace g1 := K1.cell g1
  replace f0 := K1.cell f0
  replace f1 := K1.cell f1
  replace f2 := K1.cell f2
  have HK := hid_of (KW.trans K1)
  clear K1 KW
  go_wp2_with fail
  refine (plan_calls nodes ao n cap es bs ms cs sup bo m bc on po mp pc pot wa (HE.out.kept HK.out) (HS.out.kept HK.out) (HJ.out.kept HK.out) (HP.out.kept HK.out) v code HA).mono ?_
  rintro e wb ⟨rfl, K2⟩
  replace g0 := K2.cell g0
  replace g1 := K2.cell g1
  replace f0 := K2.cell f0
  replace f1 := K2.cell f1
  replace f2 := K2.cell f2
  have HK2 := hid_of (HK.out.trans K2)
  clear K2 HK
  go_wp2_with fail
  refine (planR_calls nodes ao n cap es bs ms cs sup bo m bc on po mp pc pot wb (HE.out.kept HK2.out) (HS.out.kept HK2.out) (HJ.out.kept HK2.out) (HP.out.kept HK2.out) v code HA).mono ?_
  rintro e wc ⟨rfl, K3⟩
  replace g0 := K3.cell g0
  replace g1 := K3.cell g1
  replace f0 := K3.cell f0
  have HK3 := hid_of (HK2.out.trans K3)
  have CN := hid_of (fun w' (K : Kept wc w') => noPlan_calls nodes ao n cap es bs ms cs sup so k sc side w' (HE.out.kept (HK3.out.trans K)) (HS.out.kept (HK3.out.trans K)) (HB.out.kept (HK3.out.trans K)) z HN)
  have CM := hid_of (fun w' (K : Kept wc w') => noPlanR_calls nodes ao n cap es bs ms cs sup so k sc side w' (HE.out.kept (HK3.out.trans K)) (HS.out.kept (HK3.out.trans K)) (HB.out.kept (HK3.out.trans K)) z HN)
  clear K3 HK2 f1 f2
  have q1 : (v == v) = true := by simp
  have q2 : (code == code) = true := by simp
  have q3 : (z == z) = true := by simp
  go_wp2_with fail
  refine Ord.region [(0, 0), (1, 0), (2, 0), (3, 0), (4, 0), (5, 0), (6, 0), (7, 0), (8, 0), (9, 1), (10, 0), (11, 1), (12, 0), (14, 1), (15, 0), (16, 1), (17, 0), (13, 2), (18, 2), (19, 0), (20, 0), (21, 0)] (fun w' => Kept wc w') (by kernel_rfl) (by kernel_rfl) (by kernel_rfl) (by kernel_rfl) (fun _ _ d _ _ h => by cases d <;> exact h) ((Kept.refl _).drewN _) ?_
  repeat
    refine Ord.step rfl (fun Ko hK => ?_)
    simp only [Ord.body]
    go_simp
    first
      | (refine hK _ _ ?_; clear hK Ko)
      | (refine ⟨_, fun w' hS => (by have c0 := hS.cell g0; have c1 := hS.cell g1; have c2 := hS.cell f0; simp only [c0, c1, c2, Result.andThen]; rfl), hK _ _ ?_⟩; clear hK Ko)
      | (go_at_call 20; refine (CN.out _ ((Kept.refl _).drewN _)).mono ?_; rintro e w5 ⟨rfl, K5⟩; refine ⟨((Kept.refl _).drewN _).trans K5, hK _ _ ?_⟩; clear hK Ko)
      | (go_at_call 21; refine (CM.out _ (((Kept.refl _).drewN _).trans K5)).mono ?_; rintro e w6 ⟨rfl, K6⟩; refine ⟨(((Kept.refl _).drewN _).trans K5).trans K6, hK _ _ ?_⟩; clear hK Ko)
  refine Ord.done ?_
  have HK6 := hid_of (HK3.out.trans ((((Kept.refl _).drewN _).trans K5).trans K6))
  clear K5 K6 CN CM g0 g1 f0
  go_wp2
  go_ret
  exact ⟨rfl, HK6.out⟩

/-- What Cheapest takes. -/
theorem plan_taken {nodes : Int} {es : List Ed} {n : Nat} {sup : List Int} {ms : Nat} {on : List Int} {m : Nat} {pot : List Int} {mp : Nat} {v : Int} (h : planAns nodes es n sup ms on m pot mp = (v, 0)) (hn : n = es.length) :
    ∃ N : Nat, nodes = (N : Int) ∧ Right N n es ∧ SupOk sup ms N ∧ PlanOk es N n sup on m pot mp ∧ v = costTo es (zAt on) n := by
  unfold planAns at h
  by_cases hc : (faultOf nodes es).1 = 0
  rotate_left
  · rw [if_pos hc] at h; exact absurd (Prod.mk.inj h).2 hc
  rw [if_neg (by simp [hc])] at h
  obtain ⟨N, rfl, RG⟩ := right_of (fault_zero hc)
  rw [← hn] at RG
  simp only [Int.toNat_natCast] at h
  by_cases hs : SupOk sup ms N
  rotate_left
  · rw [if_pos hs] at h; exact absurd (Prod.mk.inj h).2 (by decide)
  rw [if_neg (fun t => t hs)] at h
  by_cases ok : PlanOk es N n sup on m pot mp
  rotate_left
  · rw [if_neg ok] at h; exact absurd (Prod.mk.inj h).2 (by decide)
  rw [if_pos ok] at h
  exact ⟨N, rfl, RG, hs, ok, (Prod.mk.inj h).1.symm⟩
theorem plan_zero {nodes : Int} {es : List Ed} {n : Nat} {sup : List Int} {ms : Nat} {on : List Int} {m : Nat} {pot : List Int} {mp : Nat} {v code : Int} (h : planAns nodes es n sup ms on m pot mp = (v, code)) (hc : code ≠ 0) : v = 0 := by
  unfold planAns at h
  split at h
  · exact (Prod.mk.inj h).1.symm
  · split at h
    · exact (Prod.mk.inj h).1.symm
    · split at h
      · exact absurd (Prod.mk.inj h).2.symm hc
      · exact (Prod.mk.inj h).1.symm
/-- What NoPlan takes. -/
theorem no_taken {nodes : Int} {es : List Ed} {n : Nat} {sup : List Int} {ms : Nat} {side : List Bool} {k : Nat} (h : noAns nodes es n sup ms side k = 0) (hn : n = es.length) :
    ∃ N : Nat, nodes = (N : Int) ∧ Right N n es ∧ SupOk sup ms N ∧ ∀ oth : List Int, ¬ FitsAll es N n oth n (zAt sup) := by
  unfold noAns at h
  by_cases hc : (faultOf nodes es).1 = 0
  rotate_left
  · rw [if_pos hc] at h; exact absurd h hc
  rw [if_neg (by simp [hc])] at h
  obtain ⟨N, rfl, RG⟩ := right_of (fault_zero hc)
  rw [← hn] at RG
  simp only [Int.toNat_natCast] at h
  by_cases hs : SupOk sup ms N
  rotate_left
  · rw [if_pos hs] at h; exact absurd h (by decide)
  rw [if_neg (fun t => t hs)] at h
  by_cases ok : NoOk es N n sup side k
  rotate_left
  · rw [if_neg ok] at h; exact absurd h (by decide)
  refine ⟨N, rfl, RG, hs, fun oth hf => ?_⟩
  have h1 := side_sup es (zAt oth) (zAt sup) (bAt side) N n RG.ends hf.1.2 hf.2
  have h2 := ok.2
  unfold supTo at h2
  omega

set_option maxRecDepth 100000 in
set_option linter.unusedSimpArgs false in
set_option maxHeartbeats 4000000 in
theorem proofPlanSoundWalk (nodes : Int) (ao : Option Addr) (n cap : Nat) (es : List Ed) (bs : Option Addr) (ms cs : Nat) (sup : List Int) (bo : Option Addr) (m bc : Nat) (on : List Int) (po : Option Addr) (mp pc : Nat) (pot : List Int) (oo : Option Addr) (mo oc : Nat) (oth : List Int) (so : Option Addr) (k sc : Nat) (side : List Bool) (w : World) (h : ERow w ao n cap es) (hS : JRow w bs ms cs sup) (hJ : JRow w bo m bc on) (hP : JRow w po mp pc pot) (hO : JRow w oo mo oc oth) (hB : BRow w so k sc side) :
    Calls Try.prog 8 #[.agg #[.int .i64 nodes, .slice ao n cap], .agg #[.slice bs ms cs, .slice bo m bc, .slice po mp pc], .agg #[.slice oo mo oc, .slice so k sc]] w fun e w' => e = .returned (.bool true) ∧ Kept w w' := by
  obtain ⟨v, code, hans⟩ : ∃ v code, planAns nodes es n sup ms on m pot mp = (v, code) := ⟨_, _, rfl⟩
  obtain ⟨z, hno⟩ : ∃ z, noAns nodes es n sup ms side k = z := ⟨_, rfl⟩
  have hnot : ∀ (x : Bool) (w : World), (Op.unary .not (.bool x)).run Try.prog w = .ok (.bool (!x)) w := fun _ _ => rfl
  have KW : Kept w (((w.alloc (Obj.cells #[.int .i64 nodes, .slice ao n cap] 24)).alloc (Obj.cells #[.slice bs ms cs, .slice bo m bc, .slice po mp pc] 37)).alloc (Obj.cells #[.slice oo mo oc, .slice so k sc] 68)) := (((Kept.refl w).alloc _).alloc _).alloc _
  have hG : GBox (((w.alloc (Obj.cells #[.int .i64 nodes, .slice ao n cap] 24)).alloc (Obj.cells #[.slice bs ms cs, .slice bo m bc, .slice po mp pc] 37)).alloc (Obj.cells #[.slice oo mo oc, .slice so k sc] 68)) w.heap.size nodes ao n cap := ⟨by simp [go_sem], by simp [go_sem]⟩
  have hF : Box3 (((w.alloc (Obj.cells #[.int .i64 nodes, .slice ao n cap] 24)).alloc (Obj.cells #[.slice bs ms cs, .slice bo m bc, .slice po mp pc] 37)).alloc (Obj.cells #[.slice oo mo oc, .slice so k sc] 68)) (w.heap.size + 1) (.slice bs ms cs) (.slice bo m bc) (.slice po mp pc) := ⟨by simp [go_sem], by simp [go_sem], by simp [go_sem]⟩
  have hX : Box2 (((w.alloc (Obj.cells #[.int .i64 nodes, .slice ao n cap] 24)).alloc (Obj.cells #[.slice bs ms cs, .slice bo m bc, .slice po mp pc] 37)).alloc (Obj.cells #[.slice oo mo oc, .slice so k sc] 68)) (w.heap.size + 2) (.slice oo mo oc) (.slice so k sc) := ⟨by simp [go_sem], by simp [go_sem]⟩
  obtain ⟨g0, g1⟩ := hG
  obtain ⟨f0, f1, f2⟩ := hF
  obtain ⟨x0, x1⟩ := hX
  have HE := hid_of h
  have HS := hid_of hS
  have HJ := hid_of hJ
  have HP := hid_of hP
  have HO := hid_of hO
  have HB := hid_of hB
  have HA := hid_of hans
  have HN := hid_of hno
  have hlen := hid_of h.len
  clear h hS hJ hP hO hB hans hno
  go_enter Try.func8, Try.ntmps8
  go_wp2_with fail
  generalize ((w.alloc (Obj.cells #[.int .i64 nodes, .slice ao n cap] 24)).alloc (Obj.cells #[.slice bs ms cs, .slice bo m bc, .slice po mp pc] 37)).alloc (Obj.cells #[.slice oo mo oc, .slice so k sc] 68) = W1 at KW g0 g1 f0 f1 f2 x0 x1 ⊢
  refine (awake_calls W1).mono ?_
  rintro e wa ⟨rfl, K1⟩
  replace g0 := K1.cell g0
  replace g1 := K1.cell g1
  replace f0 := K1.cell f0
  replace f1 := K1.cell f1
  replace f2 := K1.cell f2
  replace x0 := K1.cell x0
  replace x1 := K1.cell x1
  have HK := hid_of (KW.trans K1)
  clear K1 KW
  go_wp2_with fail
  refine (plan_calls nodes ao n cap es bs ms cs sup bo m bc on po mp pc pot wa (HE.out.kept HK.out) (HS.out.kept HK.out) (HJ.out.kept HK.out) (HP.out.kept HK.out) v code HA).mono ?_
  rintro e wb ⟨rfl, K2⟩
  replace g0 := K2.cell g0
  replace g1 := K2.cell g1
  replace f0 := K2.cell f0
  replace x0 := K2.cell x0
  replace x1 := K2.cell x1
  have HK2 := hid_of (HK.out.trans K2)
  clear K2 HK f1 f2
  go_wp2_with fail
  refine (noPlan_calls nodes ao n cap es bs ms cs sup so k sc side wb (HE.out.kept HK2.out) (HS.out.kept HK2.out) (HB.out.kept HK2.out) z HN).mono ?_
  rintro e wc ⟨rfl, K3⟩
  replace g0 := K3.cell g0
  replace g1 := K3.cell g1
  replace f0 := K3.cell f0
  replace x0 := K3.cell x0
  have HK3 := hid_of (HK2.out.trans K3)
  clear K3 HK2 x1
  by_cases hboth : code ≠ 0 ∧ z ≠ 0
  · obtain rfl := plan_zero HA.out hboth.1
    have q1 : (code != 0) = true := by simpa using hboth.1
    have q2 : (z != 0) = true := by simpa using hboth.2
    clear hboth HA HN
    go_wp2
    go_ret
    exact ⟨rfl, HK3.out⟩
  have hgood : ∃ N : Nat, nodes = (N : Int) ∧ Right N n es ∧ SupOk sup ms N := by
    by_cases hc : code = 0
    · subst hc
      obtain ⟨N, e, RG, hs, _⟩ := plan_taken HA.out hlen.out
      exact ⟨N, e, RG, hs⟩
    · have hz : z = 0 := Classical.not_not.1 fun t => hboth ⟨hc, t⟩
      subst hz
      obtain ⟨N, e, RG, hs, _⟩ := no_taken HN.out hlen.out
      exact ⟨N, e, RG, hs⟩
  obtain ⟨N, rfl, RG, hs⟩ := hgood
  obtain rfl : ms = N := hs.1
  have RGH := hid_of RG
  have COST : Hid (code = 0 → v = costTo es (zAt on) n ∧ PlanOk es ms n sup on m pot mp) := fun hc => by
    obtain ⟨N', e, _, _, ok, hv⟩ := plan_taken (hc ▸ HA.out) hlen.out
    have : ms = N' := by omega
    subst this
    exact ⟨hv, ok⟩
  have NONE : Hid (z = 0 → ∀ oth : List Int, ¬ FitsAll es ms n oth n (zAt sup)) := fun hz => by
    obtain ⟨N', e, _, _, no⟩ := no_taken (hz ▸ HN.out) hlen.out
    have : ms = N' := by omega
    subst this
    exact no
  have hcz : Hid (code = 0 → z ≠ 0) := fun hc hz => by
    obtain ⟨_, ok⟩ := COST.out hc
    have hm : m = n := ok.1.1
    exact NONE.out hz on ⟨⟨rfl, ok.1.2⟩, ok.2.2.1⟩
  clear RG hs HA HN
  by_cases hc : code = 0
  · have hz := hcz.out hc
    obtain ⟨hv, ok⟩ := COST.out hc
    have OK := hid_of ok
    have HV := hid_of hv
    have qz : (z != 0) = true := by simpa using hz
    have qz2 : (z == 0) = false := by simpa using hz
    subst hc
    clear hboth ok hcz COST NONE hz hv
    go_wp2_with fail
    refine (fitsR_calls ao ms n cap es oo mo oc oth bs cs sup wc (HE.out.kept HK3.out) (HO.out.kept HK3.out) (HS.out.kept HK3.out) RGH.out).mono ?_
    rintro e wd ⟨K4, ⟨fit, rfl⟩ | ⟨fit, rfl⟩⟩
    · replace g0 := K4.cell g0
      replace g1 := K4.cell g1
      replace x0 := K4.cell x0
      have HK4 := hid_of (HK3.out.trans K4)
      obtain rfl : mo = n := fit.1.1
      have SM := hid_of (fits_small RGH.out fit.1)
      have LE : Hid (costTo es (zAt on) mo ≤ costTo es (zAt oth) mo) := plan_le es (zAt on) (zAt oth) (zAt pot) (zAt sup) ms mo RGH.out.ends OK.out.1.2 fit.1.2 OK.out.2.2.1 fit.2 OK.out.2.2.2
      have CT := hid_of (totalR_calls (ms : Int) ao ms mo cap es oo oc oth wd (HE.out.kept HK4.out) (HO.out.kept HK4.out) RGH.out SM.out)
      rw [← HV.out] at LE
      have qd : decide (v ≤ costTo es (zAt oth) mo) = true := decide_eq_true LE.out
      generalize costTo es (zAt oth) mo = c2 at CT qd
      clear fit K4 HK3 LE HV f0 OK
      go_wp2_with fail
      refine CT.out.mono ?_
      rintro e we ⟨rfl, K5⟩
      have HK5 := hid_of (HK4.out.trans K5)
      clear K5 HK4 CT g0 g1 x0
      go_wp2
      go_ret
      exact ⟨rfl, HK5.out⟩
    · have HK4 := hid_of (HK3.out.trans K4)
      clear fit K4 HK3 g0 g1 x0 f0 HV
      go_wp2
      go_ret
      exact ⟨rfl, HK4.out⟩
  · have hz : z = 0 := Classical.not_not.1 fun t => hboth ⟨hc, t⟩
    have NO := hid_of (NONE.out hz)
    have qc : (code != 0) = true := by simpa using hc
    have qc2 : (code == 0) = false := by simpa using hc
    subst hz
    clear hboth hcz COST NONE hc
    go_wp2_with fail
    refine (fitsR_calls ao ms n cap es oo mo oc oth bs cs sup wc (HE.out.kept HK3.out) (HO.out.kept HK3.out) (HS.out.kept HK3.out) RGH.out).mono ?_
    rintro e wd ⟨K4, ⟨fit, rfl⟩ | ⟨fit, rfl⟩⟩
    · exact absurd (show FitsAll es ms n oth n (zAt sup) from ⟨⟨rfl, fit.1.2⟩, fit.2⟩) (NO.out oth)
    · have HK4 := hid_of (HK3.out.trans K4)
      clear fit K4 HK3 g0 g1 x0 f0 NO
      go_wp2
      go_ret
      exact ⟨rfl, HK4.out⟩
end Go.Proofs.Ytfgkneoimgknmaa
