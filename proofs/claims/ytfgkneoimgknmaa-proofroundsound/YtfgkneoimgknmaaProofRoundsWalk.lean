/- ProofRounds and ProofRoundSound: the walks of the laws. -/
import Derived.Test.YtfgkneoimgknmaaPrS
import Derived.Test.YtfgkneoimgknmaaRfI
namespace Go.Proofs.Ytfgkneoimgknmaa
open Go.RowKit

set_option maxRecDepth 100000 in
set_option linter.unusedSimpArgs false in
set_option maxHeartbeats 2000000 in
theorem proofRoundsWalk (nodes : Int) (ao : Option Addr) (n cap : Nat) (es : List Ed) (bo : Option Addr) (m bc : Nat) (ts : List Int) (po : Option Addr) (mp pc : Nat) (pot : List Int) (so : Option Addr) (k sc : Nat) (side : List Bool) (w : World) (h : ERow w ao n cap es) (hJ : JRow w bo m bc ts) (hP : JRow w po mp pc pot) (hB : BRow w so k sc side) :
    Calls Try.prog 6 #[.agg #[.int .i64 nodes, .slice ao n cap], .agg #[.slice bo m bc, .slice po mp pc], .slice so k sc] w fun e w' => e = .returned (.bool true) ∧ Kept w w' := by
  obtain ⟨v, code, hans⟩ : ∃ v code, postAns nodes es n ts m pot mp = (v, code) := ⟨_, _, rfl⟩
  obtain ⟨z, hno⟩ : ∃ z, apartAns nodes es n side k = z := ⟨_, rfl⟩
  have hnot : ∀ (x : Bool) (w : World), (Op.unary .not (.bool x)).run Try.prog w = .ok (.bool (!x)) w := fun _ _ => rfl
  have KW : Kept w ((w.alloc (Obj.cells #[.int .i64 nodes, .slice ao n cap] 24)).alloc (Obj.cells #[.slice bo m bc, .slice po mp pc] 58)) := ((Kept.refl w).alloc _).alloc _
  have hG : GBox ((w.alloc (Obj.cells #[.int .i64 nodes, .slice ao n cap] 24)).alloc (Obj.cells #[.slice bo m bc, .slice po mp pc] 58)) w.heap.size nodes ao n cap := ⟨by simp [go_sem], by simp [go_sem]⟩
  have hF : Box2 ((w.alloc (Obj.cells #[.int .i64 nodes, .slice ao n cap] 24)).alloc (Obj.cells #[.slice bo m bc, .slice po mp pc] 58)) (w.heap.size + 1) (.slice bo m bc) (.slice po mp pc) := ⟨by simp [go_sem], by simp [go_sem]⟩
  obtain ⟨g0, g1⟩ := hG
  obtain ⟨f0, f1⟩ := hF
  have HE := hid_of h
  have HJ := hid_of hJ
  have HP := hid_of hP
  have HB := hid_of hB
  have HA := hid_of hans
  have HN := hid_of hno
  clear h hJ hP hB hans hno
  go_enter Try.func6, Try.ntmps6
  go_wp2_with fail
  generalize (w.alloc (Obj.cells #[.int .i64 nodes, .slice ao n cap] 24)).alloc (Obj.cells #[.slice bo m bc, .slice po mp pc] 58) = W1 at KW g0 g1 f0 f1 ⊢
  refine (awake_calls W1).mono ?_
  rintro e wa ⟨rfl, K1⟩
  replace g0 := K1.cell g0
  replace g1 := K1.cell g1
  replace f0 := K1.cell f0
  replace f1 := K1.cell f1
  have HK := hid_of (KW.trans K1)
  clear K1 KW
  go_wp2_with fail
  refine (post_calls nodes ao n cap es bo m bc ts po mp pc pot wa (HE.out.kept HK.out) (HJ.out.kept HK.out) (HP.out.kept HK.out) v code HA).mono ?_
  rintro e wb ⟨rfl, K2⟩
  replace g0 := K2.cell g0
  replace g1 := K2.cell g1
  replace f0 := K2.cell f0
  replace f1 := K2.cell f1
  have HK2 := hid_of (HK.out.trans K2)
  clear K2 HK
  go_wp2_with fail
  refine (postR_calls nodes ao n cap es bo m bc ts po mp pc pot wb (HE.out.kept HK2.out) (HJ.out.kept HK2.out) (HP.out.kept HK2.out) v code HA).mono ?_
  rintro e wc ⟨rfl, K3⟩
  replace g0 := K3.cell g0
  replace g1 := K3.cell g1
  have HK3 := hid_of (HK2.out.trans K3)
  have CN := hid_of (fun w' (K : Kept wc w') => apart_calls nodes ao n cap es so k sc side w' (HE.out.kept (HK3.out.trans K)) (HB.out.kept (HK3.out.trans K)) z HN)
  have CM := hid_of (fun w' (K : Kept wc w') => apartR_calls nodes ao n cap es so k sc side w' (HE.out.kept (HK3.out.trans K)) (HB.out.kept (HK3.out.trans K)) z HN)
  clear K3 HK2 f0 f1
  have q1 : (v == v) = true := by simp
  have q2 : (code == code) = true := by simp
  have q3 : (z == z) = true := by simp
  go_wp2_with fail
  refine Ord.region [(0, 0), (1, 0), (2, 0), (3, 0), (4, 0), (5, 0), (6, 0), (7, 0), (8, 0), (9, 1), (10, 0), (12, 1), (13, 0), (11, 2), (14, 2), (15, 0), (16, 0), (17, 0)] (fun w' => Kept wc w') (by kernel_rfl) (by kernel_rfl) (by kernel_rfl) (by kernel_rfl) (fun _ _ d _ _ h => by cases d <;> exact h) ((Kept.refl _).drewN _) ?_
  repeat
    refine Ord.step rfl (fun Ko hK => ?_)
    simp only [Ord.body]
    go_simp
    first
      | (refine hK _ _ ?_; clear hK Ko)
      | (refine ⟨_, fun w' hS => (by have c0 := hS.cell g0; have c1 := hS.cell g1; simp only [c0, c1, Result.andThen]; rfl), hK _ _ ?_⟩; clear hK Ko)
      | (go_at_call 29; refine (CN.out _ ((Kept.refl _).drewN _)).mono ?_; rintro e w5 ⟨rfl, K5⟩; refine ⟨((Kept.refl _).drewN _).trans K5, hK _ _ ?_⟩; clear hK Ko)
      | (go_at_call 30; refine (CM.out _ (((Kept.refl _).drewN _).trans K5)).mono ?_; rintro e w6 ⟨rfl, K6⟩; refine ⟨(((Kept.refl _).drewN _).trans K5).trans K6, hK _ _ ?_⟩; clear hK Ko)
  refine Ord.done ?_
  have HK6 := hid_of (HK3.out.trans ((((Kept.refl _).drewN _).trans K5).trans K6))
  clear K5 K6 CN CM g0 g1
  go_wp2
  go_ret
  exact ⟨rfl, HK6.out⟩

/-- What Postman takes. -/
theorem post_taken {nodes : Int} {es : List Ed} {n : Nat} {ts : List Int} {m : Nat} {pot : List Int} {mp : Nat} {v : Int} (h : postAns nodes es n ts m pot mp = (v, 0)) (hn : n = es.length) :
    ∃ N : Nat, nodes = (N : Int) ∧ Right N n es ∧ RoundOk es N n ts m pot mp ∧ v = costTo es (zAt ts) n := by
  unfold postAns at h
  by_cases hc : (faultOf nodes es).1 = 0
  rotate_left
  · rw [if_pos hc] at h; exact absurd (Prod.mk.inj h).2 hc
  rw [if_neg (by simp [hc])] at h
  obtain ⟨N, rfl, RG⟩ := right_of (fault_zero hc)
  rw [← hn] at RG
  simp only [Int.toNat_natCast] at h
  by_cases hs : CostsOk es n
  rotate_left
  · rw [if_pos hs] at h; exact absurd (Prod.mk.inj h).2 (by decide)
  rw [if_neg (fun t => t hs)] at h
  by_cases ok : RoundOk es N n ts m pot mp
  rotate_left
  · rw [if_neg ok] at h; exact absurd (Prod.mk.inj h).2 (by decide)
  rw [if_pos ok] at h
  exact ⟨N, rfl, RG, ok, (Prod.mk.inj h).1.symm⟩
theorem post_zero {nodes : Int} {es : List Ed} {n : Nat} {ts : List Int} {m : Nat} {pot : List Int} {mp : Nat} {v code : Int} (h : postAns nodes es n ts m pot mp = (v, code)) (hc : code ≠ 0) : v = 0 := by
  unfold postAns at h
  split at h
  · exact (Prod.mk.inj h).1.symm
  · split at h
    · exact (Prod.mk.inj h).1.symm
    · split at h
      · exact absurd (Prod.mk.inj h).2.symm hc
      · exact (Prod.mk.inj h).1.symm

/-- Where all edges hang together and a round takes them, no side shows that none does. -/
theorem no_apart {es : List Ed} {N n : Nat} (RG : Right N n es) {ts : List Int} (ht : ∀ i, i < n → 1 ≤ zAt ts i) (hev : ∀ v : Nat, v < N → outTo es (zAt ts) (v : Int) n = 0) (hh : HangOk es n) {bs : List Bool} {k : Nat} (ha : ApartOk es N n bs k) : False := by
  obtain ⟨-, h1, h2, h3⟩ := ha
  have eq := round_shut es (zAt ts) (bAt bs) N n RG.ends ht hev h1
  have along : ∀ {u v}, Way (outs (both es)) u v → bAt bs u = bAt bs v := fun t => by
    induction t with
    | refl => rfl
    | step _ hx ih =>
      rw [ih]
      obtain ⟨e, he, e1, e2⟩ := outs_mem hx
      rcases List.mem_append.1 he with he | he
      · obtain ⟨i, hi, rfl⟩ := memW_edAt he
        have := eq i (by rw [RG.len]; exact hi)
        rw [e1, Int.toNat_natCast, e2] at this
        exact this
      · obtain ⟨d, hd, rfl⟩ := List.mem_map.1 he
        obtain ⟨i, hi, rfl⟩ := memW_edAt hd
        have := eq i (by rw [RG.len]; exact hi)
        have e1' : (edAt es i).t = _ := e1
        have e2' : (edAt es i).f.toNat = _ := e2
        rw [e1', Int.toNat_natCast, e2'] at this
        exact this.symm
  obtain ⟨i, hi, hon⟩ := onTo_ex h2
  obtain ⟨j, hj, hoff⟩ := offTo_ex h3
  have a := along (hh i hi)
  have b := along (hh j hj)
  have c := eq i hi
  have d := eq j hj
  rcases hon with hon | hon <;> rcases hoff with hoff | hoff
  · rw [← b, a, hon] at hoff; cases hoff
  · rw [← d, ← b, a, hon] at hoff; cases hoff
  · rw [← b, a, c, hon] at hoff; cases hoff
  · rw [← d, ← b, a, c, hon] at hoff; cases hoff

set_option maxRecDepth 100000 in
set_option linter.unusedSimpArgs false in
set_option maxHeartbeats 4000000 in
theorem proofRoundSoundWalk (nodes : Int) (ao : Option Addr) (n cap : Nat) (es : List Ed) (bo : Option Addr) (m bc : Nat) (ts : List Int) (po : Option Addr) (mp pc : Nat) (pot : List Int) (oo : Option Addr) (mo oc : Nat) (oth : List Int) (so : Option Addr) (k sc : Nat) (side : List Bool) (w : World) (h : ERow w ao n cap es) (hJ : JRow w bo m bc ts) (hP : JRow w po mp pc pot) (hO : JRow w oo mo oc oth) (hB : BRow w so k sc side) :
    Calls Try.prog 10 #[.agg #[.int .i64 nodes, .slice ao n cap], .agg #[.slice bo m bc, .slice po mp pc], .agg #[.slice oo mo oc, .slice so k sc]] w fun e w' => e = .returned (.bool true) ∧ Kept w w' := by
  obtain ⟨v, code, hans⟩ : ∃ v code, postAns nodes es n ts m pot mp = (v, code) := ⟨_, _, rfl⟩
  obtain ⟨z, hno⟩ : ∃ z, apartAns nodes es n side k = z := ⟨_, rfl⟩
  have hnot : ∀ (x : Bool) (w : World), (Op.unary .not (.bool x)).run Try.prog w = .ok (.bool (!x)) w := fun _ _ => rfl
  have KW : Kept w (((w.alloc (Obj.cells #[.int .i64 nodes, .slice ao n cap] 24)).alloc (Obj.cells #[.slice bo m bc, .slice po mp pc] 58)).alloc (Obj.cells #[.slice oo mo oc, .slice so k sc] 68)) := (((Kept.refl w).alloc _).alloc _).alloc _
  have hG : GBox (((w.alloc (Obj.cells #[.int .i64 nodes, .slice ao n cap] 24)).alloc (Obj.cells #[.slice bo m bc, .slice po mp pc] 58)).alloc (Obj.cells #[.slice oo mo oc, .slice so k sc] 68)) w.heap.size nodes ao n cap := ⟨by simp [go_sem], by simp [go_sem]⟩
  have hF : Box2 (((w.alloc (Obj.cells #[.int .i64 nodes, .slice ao n cap] 24)).alloc (Obj.cells #[.slice bo m bc, .slice po mp pc] 58)).alloc (Obj.cells #[.slice oo mo oc, .slice so k sc] 68)) (w.heap.size + 1) (.slice bo m bc) (.slice po mp pc) := ⟨by simp [go_sem], by simp [go_sem]⟩
  have hX : Box2 (((w.alloc (Obj.cells #[.int .i64 nodes, .slice ao n cap] 24)).alloc (Obj.cells #[.slice bo m bc, .slice po mp pc] 58)).alloc (Obj.cells #[.slice oo mo oc, .slice so k sc] 68)) (w.heap.size + 2) (.slice oo mo oc) (.slice so k sc) := ⟨by simp [go_sem], by simp [go_sem]⟩
  obtain ⟨g0, g1⟩ := hG
  obtain ⟨f0, f1⟩ := hF
  obtain ⟨x0, x1⟩ := hX
  have HE := hid_of h
  have HJ := hid_of hJ
  have HP := hid_of hP
  have HO := hid_of hO
  have HB := hid_of hB
  have HA := hid_of hans
  have HN := hid_of hno
  have hlen := hid_of h.len
  clear h hJ hP hO hB hans hno
  go_enter Try.func10, Try.ntmps10
  go_wp2_with fail
  generalize ((w.alloc (Obj.cells #[.int .i64 nodes, .slice ao n cap] 24)).alloc (Obj.cells #[.slice bo m bc, .slice po mp pc] 58)).alloc (Obj.cells #[.slice oo mo oc, .slice so k sc] 68) = W1 at KW g0 g1 f0 f1 x0 x1 ⊢
  refine (awake_calls W1).mono ?_
  rintro e wa ⟨rfl, K1⟩
  replace g0 := K1.cell g0
  replace g1 := K1.cell g1
  replace f0 := K1.cell f0
  replace f1 := K1.cell f1
  replace x0 := K1.cell x0
  replace x1 := K1.cell x1
  have HK := hid_of (KW.trans K1)
  clear K1 KW
  go_wp2_with fail
  refine (post_calls nodes ao n cap es bo m bc ts po mp pc pot wa (HE.out.kept HK.out) (HJ.out.kept HK.out) (HP.out.kept HK.out) v code HA).mono ?_
  rintro e wb ⟨rfl, K2⟩
  replace g0 := K2.cell g0
  replace g1 := K2.cell g1
  replace x0 := K2.cell x0
  replace x1 := K2.cell x1
  have HK2 := hid_of (HK.out.trans K2)
  clear K2 HK f0 f1
  go_wp2_with fail
  refine (apart_calls nodes ao n cap es so k sc side wb (HE.out.kept HK2.out) (HB.out.kept HK2.out) z HN).mono ?_
  rintro e wc ⟨rfl, K3⟩
  replace g0 := K3.cell g0
  replace g1 := K3.cell g1
  replace x0 := K3.cell x0
  have HK3 := hid_of (HK2.out.trans K3)
  clear K3 HK2 x1
  by_cases hc : code = 0
  rotate_left
  · obtain rfl := post_zero HA.out hc
    have qc : (code == 0) = false := by simpa using hc
    have qc2 : (code != 0) = true := by simpa using hc
    clear HA HN hc
    by_cases hz : z = 0
    · subst hz
      go_wp2
      go_ret
      exact ⟨rfl, HK3.out⟩
    · have qz : (z == 0) = false := by simpa using hz
      go_wp2
      go_ret
      exact ⟨rfl, HK3.out⟩
  subst hc
  obtain ⟨N, rfl, RG, ok, hv⟩ := post_taken HA.out hlen.out
  have hz : z ≠ 0 := fun hz => by
    have e := HN.out
    rw [hz] at e
    unfold apartAns at e
    split at e
    · rename_i q; exact absurd e q
    · split at e
      · rename_i q
        rw [Int.toNat_natCast] at q
        exact no_apart RG (fun i hi => (ok.1.2 i hi).1) ok.2.1 ok.2.2.1 q
      · exact absurd e (by decide)
  have qz : (z == 0) = false := by simpa using hz
  have RGH := hid_of RG
  have OK := hid_of ok
  have HV := hid_of hv
  clear RG ok hv hz HA HN
  go_wp2_with fail
  refine (roundsR_calls ao N n cap es oo mo oc oth wc (HE.out.kept HK3.out) (HO.out.kept HK3.out) RGH.out).mono ?_
  rintro e wd ⟨K4, ⟨fit, rfl⟩ | ⟨fit, rfl⟩⟩
  · replace g0 := K4.cell g0
    replace g1 := K4.cell g1
    replace x0 := K4.cell x0
    have HK4 := hid_of (HK3.out.trans K4)
    obtain rfl : mo = n := fit.1.1
    have SM := hid_of (times_small fit.1)
    have LE : Hid (costTo es (zAt ts) mo ≤ costTo es (zAt oth) mo) := round_le es (zAt ts) (zAt oth) (zAt pot) N mo RGH.out.ends (fun i hi => (fit.1.2 i hi).1) OK.out.2.1 fit.2 OK.out.2.2.2.2
    have CT := hid_of (totalR_calls (N : Int) ao N mo cap es oo oc oth wd (HE.out.kept HK4.out) (HO.out.kept HK4.out) RGH.out SM.out)
    rw [← HV.out] at LE
    have qd : decide (v ≤ costTo es (zAt oth) mo) = true := decide_eq_true LE.out
    generalize costTo es (zAt oth) mo = c2 at CT qd
    clear fit K4 HK3 LE HV OK
    go_wp2_with fail
    refine CT.out.mono ?_
    rintro e we ⟨rfl, K5⟩
    have HK5 := hid_of (HK4.out.trans K5)
    clear K5 HK4 CT g0 g1 x0
    go_wp2
    go_ret
    exact ⟨rfl, HK5.out⟩
  · have HK4 := hid_of (HK3.out.trans K4)
    clear fit K4 HK3 g0 g1 x0 HV
    go_wp2
    go_ret
    exact ⟨rfl, HK4.out⟩
end Go.Proofs.Ytfgkneoimgknmaa
