/- The document's Cheapest and NoPlan. -/
import Derived.Test.YtfgkneoimgknmaaRfD
import Derived.Test.YtfgkneoimgknmaaRfC
namespace Go.Proofs.Ytfgkneoimgknmaa
open Go.RowKit

theorem planOk_iff {es : List Ed} {N n : Nat} {sup on : List Int} {m : Nat} {pot : List Int} {mp : Nat} : PlanOk es N n sup on m pot mp ↔ FitsAll es N n on m (zAt sup) ∧ PotsOk pot mp N ∧ ∀ i, i < n → EdgeOk es (zAt on) (zAt pot) i :=
  ⟨fun t => ⟨⟨t.1, t.2.2.1⟩, t.2.1, t.2.2.2⟩, fun t => ⟨t.1.1, t.2.1, t.1.2, t.2.2⟩⟩

set_option maxRecDepth 100000 in
set_option linter.unusedSimpArgs false in
set_option maxHeartbeats 4000000 in
theorem planR_calls (nodes : Int) (ao : Option Addr) (n cap : Nat) (es : List Ed) (bs : Option Addr) (ms cs : Nat) (sup : List Int) (bo : Option Addr) (m bc : Nat) (on : List Int) (po : Option Addr) (mp pc : Nat) (pot : List Int) (w : World) (h : ERow w ao n cap es) (hS : JRow w bs ms cs sup) (hJ : JRow w bo m bc on) (hP : JRow w po mp pc pot) (v code : Int) (hans : Hid (planAns nodes es n sup ms on m pot mp = (v, code))) :
    Calls Try.prog 19 #[.agg #[.int .i64 nodes, .slice ao n cap], .slice bs ms cs, .slice bo m bc, .slice po mp pc] w fun e w' => e = .returned (.tuple #[.int .i64 v, .int .i64 code]) ∧ Kept w w' := by
  have hr2 := hJ.room
  have hm2 := hJ.most
  have hr4 := h.room
  have hm4 := h.most
  unfold maxLen at hm2 hm4
  have KW : Kept w (w.alloc (Obj.cells #[.int .i64 nodes, .slice ao n cap] 24)) := (Kept.refl w).alloc _
  have w0 : (w.alloc (Obj.cells #[.int .i64 nodes, .slice ao n cap] 24)).cell? ⟨w.heap.size, 0, none⟩ = some (.int .i64 nodes) := by simp [go_sem]
  have w1 : (w.alloc (Obj.cells #[.int .i64 nodes, .slice ao n cap] 24)).cell? ⟨w.heap.size, 1, none⟩ = some (.slice ao n cap) := by simp [go_sem]
  have HE := hid_of h
  have HS := hid_of hS
  have HJ := hid_of hJ
  have HP := hid_of hP
  obtain ⟨z, hz⟩ : ∃ z, supCode nodes es sup ms = z := ⟨_, rfl⟩
  have SC := hid_of (supR_calls nodes ao n cap es bs ms cs sup _ (h.kept KW) (hS.kept KW) z (hid_of hz))
  replace hans := hans.out
  unfold planAns at hans
  unfold supCode at hz
  have hnot : ∀ (x : Bool) (w : World), (Op.unary .not (.bool x)).run Try.prog w = .ok (.bool (!x)) w := fun _ _ => rfl
  clear h hS hJ hP
  by_cases hne : z = 0
  rotate_left
  · obtain ⟨rfl, rfl⟩ : v = 0 ∧ code = z := by
      split at hans
      · rename_i q; rw [if_pos q] at hz; obtain ⟨rfl, rfl⟩ := Prod.mk.inj hans; exact ⟨rfl, hz⟩
      · rename_i q
        rw [if_neg q] at hz
        split at hans
        · rename_i q; rw [if_pos q] at hz; obtain ⟨rfl, rfl⟩ := Prod.mk.inj hans; exact ⟨rfl, hz⟩
        · rename_i q; rw [if_neg q] at hz; exact absurd hz.symm hne
    have q : (code != 0) = true := by simpa using hne
    clear hans hz
    go_enter Try.func19, Try.ntmps19
    go_wp2_with fail
    refine SC.out.mono ?_
    rintro e wa ⟨rfl, K1⟩
    have HK := hid_of (KW.trans K1)
    clear KW K1 SC w0 w1
    go_wp2
    go_ret2
    exact ⟨rfl, HK.out⟩
  subst hne
  have hc0 : (faultOf nodes es).1 = 0 := by
    by_cases q : (faultOf nodes es).1 = 0
    · exact q
    · rw [if_pos q] at hz; exact absurd hz q
  rw [if_neg (by simp [hc0])] at hans hz
  have hf := fault_zero hc0
  obtain ⟨N, rfl, RG⟩ := right_of hf
  rw [← HE.out.len] at RG
  simp only [Int.toNat_natCast] at hans hz
  have hsup : SupOk sup ms N := by
    by_cases q : SupOk sup ms N
    · exact q
    · rw [if_pos q] at hz; exact absurd hz (by decide)
  rw [if_neg (fun t => t hsup)] at hans
  obtain rfl : ms = N := hsup.1
  have HA := hid_of hans
  have RGH := hid_of RG
  clear hans hz hc0 RG hf hsup
  go_enter Try.func19, Try.ntmps19
  go_wp2_with fail
  refine SC.out.mono ?_
  rintro e wa ⟨rfl, K1⟩
  replace w0 := K1.cell w0
  replace w1 := K1.cell w1
  have HK := hid_of (KW.trans K1)
  clear KW K1 SC
  go_wp2_with fail
  refine (fitsR_calls ao ms n cap es bo m bc on bs cs sup wa (HE.out.kept HK.out) (HJ.out.kept HK.out) (HS.out.kept HK.out) RGH.out).mono ?_
  rintro e wb ⟨K2, ⟨fit, rfl⟩ | ⟨fit, rfl⟩⟩
  rotate_left
  · have e := HA.out
    rw [if_neg (fun t => fit (planOk_iff.1 t).1)] at e
    obtain ⟨rfl, rfl⟩ := Prod.mk.inj e
    have HK3 := hid_of (HK.out.trans K2)
    clear HA e fit K2 HK w0 w1
    go_wp2
    go_ret2
    exact ⟨rfl, HK3.out⟩
  replace w0 := K2.cell w0
  replace w1 := K2.cell w1
  have HK2 := hid_of (HK.out.trans K2)
  have FIT := hid_of fit
  clear K2 HK fit
  go_wp2_with fail
  refine (potsR_calls ms (.slice ao n cap) po mp pc pot wb (HP.out.kept HK2.out)).mono ?_
  rintro e wc ⟨K3, ⟨pok, rfl⟩ | ⟨pok, rfl⟩⟩
  rotate_left
  · have e := HA.out
    rw [if_neg (fun t => pok (planOk_iff.1 t).2.1)] at e
    obtain ⟨rfl, rfl⟩ := Prod.mk.inj e
    have HK3 := hid_of (HK2.out.trans K3)
    clear HA e pok K3 HK2 w0 w1
    go_wp2
    go_ret2
    exact ⟨rfl, HK3.out⟩
  replace w0 := K3.cell w0
  replace w1 := K3.cell w1
  have HK3 := hid_of (HK2.out.trans K3)
  have POK := hid_of pok
  clear K3 HK2 pok
  obtain rfl : m = n := FIT.out.1.1
  obtain rfl : mp = ms := POK.out.1
  have SM := hid_of (fits_small RGH.out FIT.out.1)
  have CR := hid_of (fun (e : Ed) (w' : World) (K : Kept wc w') (h1 : 0 ≤ e.f) (h2 : e.f < (mp : Int)) (h3 : 0 ≤ e.t) (h4 : e.t < (mp : Int)) (h5 : -1048576 ≤ e.k) (h6 : e.k ≤ 1048576) => reducedR_calls e mp po pc pot w' (HP.out.kept (HK3.out.trans K)) h1 h2 h3 h4 h5 h6 POK.out.2)
  go_wp2_with fail
  go_loopw [11, 12] (fun i _ wr => ∃ (k : Nat), k ≤ m ∧ i = .int .i64 k ∧ Kept wc wr ∧ ∀ j, j < k → EdgeOk es (zAt on) (zAt pot) j) (fun i _ _ => m - (intOf i).toNat)
  case atStart => exact ⟨0, by omega, rfl, Kept.refl _, fun i hi => by omega⟩
  case round =>
    obtain ⟨k, hk, rfl, K, hno⟩ := hrel
    have HNO := hid_of hno
    clear hno
    replace w1 := K.cell w1
    by_cases hgo2 : (k : Int) < (m : Int)
    · obtain ⟨b, off, rfl, hc⟩ := (HE.out.kept (HK3.out.trans K)).cell (by omega)
      obtain ⟨d1, d2, d3, d4⟩ := hc k (by omega)
      obtain ⟨e1, e2, e3, e4⟩ := RGH.out.ends k (by omega)
      obtain ⟨l1, l2⟩ := RGH.out.costs k (by omega)
      obtain ⟨x1, x2⟩ := FIT.out.1.2 k (by omega)
      obtain ⟨b2, off2, rfl, hc2⟩ := (HJ.out.kept (HK3.out.trans K)).at (by omega)
      have d5 := hc2 k (by omega)
      clear hc hc2
      have HIT : Hid (EdgeOk es (zAt on) (zAt pot) k → ∀ j, j < k + 1 → EdgeOk es (zAt on) (zAt pot) j) := fun hb i hi => by
        by_cases e : i = k
        · subst e; exact hb
        · exact HNO.out i (by omega)
      have MISS : Hid (¬ EdgeOk es (zAt on) (zAt pot) k → v = 0 ∧ code = 221) := fun hb => by
        have e := HA.out
        rw [if_neg (fun t => hb ((planOk_iff.1 t).2.2 k (by omega)))] at e
        obtain ⟨rfl, rfl⟩ := Prod.mk.inj e
        exact ⟨rfl, rfl⟩
      have C1 := hid_of (fun w' K => CR.out (edAt es k) w' K e1 e2 e3 e4 l1 l2)
      unfold EdgeOk redOf at HIT MISS
      clear e1 e2 e3 e4 l1 l2
      generalize (edAt es k).k + zAt pot (edAt es k).f.toNat - zAt pot (edAt es k).t.toNat = r at HIT MISS C1
      generalize zAt on k = x at d5 HIT MISS x1 x2
      generalize edAt es k = e at d1 d2 d3 d4 HIT MISS C1 x2
      obtain ⟨ef, et, ec, ek⟩ := e
      simp only at d1 d2 d3 d4 HIT MISS C1 x2
      go_wp2_with fail
      refine (C1.out _ K).mono ?_
      rintro e w5 ⟨rfl, K5⟩
      replace d5 := K5.cell d5
      replace w1 := K5.cell w1
      replace d3 := K5.cell d3
      have KN := hid_of (K.trans K5)
      clear K K5 C1 d1 d2 d4
      by_cases hr0 : r = 0
      · have P := hid_of (HIT.out ⟨.inl (by omega), .inl (by omega)⟩)
        subst hr0
        clear HIT MISS
        go_wp2_with fail
        refine Ord.region [(0, 0), (1, 0), (2, 0), (3, 0), (4, 0), (5, 0), (6, 1), (7, 0), (8, 0), (9, 0), (10, 0), (11, 0), (12, 0), (13, 0), (14, 0), (15, 0), (16, 1), (17, 0), (18, 1), (19, 0), (20, 0), (21, 0), (22, 1), (23, 0), (24, 0), (25, 0)] (fun w' => Kept w5 w') (by kernel_rfl) (by kernel_rfl) (by kernel_rfl) (by kernel_rfl) (fun _ _ d _ _ h => by cases d <;> exact h) ((Kept.refl _).drewN _) ?_
        repeat
          refine Ord.step rfl (fun Ko hK => ?_)
          simp only [Ord.body]
          go_simp
          first
            | (refine hK _ _ ?_; clear hK Ko)
            | (refine ⟨_, fun w' hS => (by have c0 := hS.cell w1; have c1 := hS.cell d5; have c2 := hS.cell d3; simp only [c0, c1, c2, Result.andThen]; rfl), hK _ _ ?_⟩; clear hK Ko)
        refine Ord.done ?_
        go_wp2
        go_roundw
        case rel => exact ⟨k + 1, by omega, by go_num, KN.out.drewN _, P.out⟩
        case measure => simp [intOf]; omega
      by_cases hr1 : r < 0
      · have qr : decide (0 < r) = false := decide_eq_false (by omega)
        have qr2 : decide (r < 0) = true := decide_eq_true hr1
        by_cases hx : x = ec
        · have P := hid_of (HIT.out ⟨.inl (by omega), .inr hx⟩)
          subst hx
          clear HIT MISS
          go_wp2_with fail
          refine Ord.region [(0, 0), (1, 0), (2, 0), (3, 0), (4, 0), (5, 0), (6, 1), (7, 0), (8, 0), (9, 0), (10, 0), (11, 0), (12, 0), (13, 0), (14, 0), (15, 0), (16, 1), (17, 0), (18, 1), (19, 0), (20, 0), (21, 0), (22, 1), (23, 0), (24, 0), (25, 0)] (fun w' => Kept w5 w') (by kernel_rfl) (by kernel_rfl) (by kernel_rfl) (by kernel_rfl) (fun _ _ d _ _ h => by cases d <;> exact h) ((Kept.refl _).drewN _) ?_
          repeat
            refine Ord.step rfl (fun Ko hK => ?_)
            simp only [Ord.body]
            go_simp
            first
              | (refine hK _ _ ?_; clear hK Ko)
              | (refine ⟨_, fun w' hS => (by have c0 := hS.cell w1; have c1 := hS.cell d5; have c2 := hS.cell d3; simp only [c0, c1, c2, Result.andThen]; rfl), hK _ _ ?_⟩; clear hK Ko)
          refine Ord.done ?_
          go_wp2
          go_roundw
          case rel => exact ⟨k + 1, by omega, by go_num, KN.out.drewN _, P.out⟩
          case measure => simp [intOf]; omega
        · obtain ⟨rfl, rfl⟩ := MISS.out (fun t => hx (t.2.resolve_left (by omega)))
          have qx : decide (x < ec) = true := decide_eq_true (by omega)
          clear HIT MISS
          go_wp2_with fail
          refine Ord.region [(0, 0), (1, 0), (2, 0), (3, 0), (4, 0), (5, 0), (6, 1), (7, 0), (8, 0), (9, 0), (10, 0), (11, 0), (12, 0), (13, 0), (14, 0), (15, 0), (16, 1), (17, 0), (18, 1), (19, 0), (20, 0), (21, 0), (22, 1), (23, 0), (24, 0), (25, 0)] (fun w' => Kept w5 w') (by kernel_rfl) (by kernel_rfl) (by kernel_rfl) (by kernel_rfl) (fun _ _ d _ _ h => by cases d <;> exact h) ((Kept.refl _).drewN _) ?_
          repeat
            refine Ord.step rfl (fun Ko hK => ?_)
            simp only [Ord.body]
            go_simp
            first
              | (refine hK _ _ ?_; clear hK Ko)
              | (refine ⟨_, fun w' hS => (by have c0 := hS.cell w1; have c1 := hS.cell d5; have c2 := hS.cell d3; simp only [c0, c1, c2, Result.andThen]; rfl), hK _ _ ?_⟩; clear hK Ko)
          refine Ord.done ?_
          go_wp2
          go_ret2
          exact ⟨rfl, HK3.out.trans (KN.out.drewN _)⟩
      · have qr : decide (0 < r) = true := decide_eq_true (by omega)
        have qr2 : decide (r < 0) = false := decide_eq_false hr1
        by_cases hx : x = 0
        · have P := hid_of (HIT.out ⟨.inr hx, .inl (by omega)⟩)
          subst hx
          clear HIT MISS
          go_wp2_with fail
          refine Ord.region [(0, 0), (1, 0), (2, 0), (3, 0), (4, 0), (5, 0), (6, 1), (7, 0), (8, 0), (9, 0), (10, 0), (11, 0), (12, 0), (13, 0), (14, 0), (15, 0), (16, 1), (17, 0), (18, 1), (19, 0), (20, 0), (21, 0), (22, 1), (23, 0), (24, 0), (25, 0)] (fun w' => Kept w5 w') (by kernel_rfl) (by kernel_rfl) (by kernel_rfl) (by kernel_rfl) (fun _ _ d _ _ h => by cases d <;> exact h) ((Kept.refl _).drewN _) ?_
          repeat
            refine Ord.step rfl (fun Ko hK => ?_)
            simp only [Ord.body]
            go_simp
            first
              | (refine hK _ _ ?_; clear hK Ko)
              | (refine ⟨_, fun w' hS => (by have c0 := hS.cell w1; have c1 := hS.cell d5; have c2 := hS.cell d3; simp only [c0, c1, c2, Result.andThen]; rfl), hK _ _ ?_⟩; clear hK Ko)
          refine Ord.done ?_
          go_wp2
          go_roundw
          case rel => exact ⟨k + 1, by omega, by go_num, KN.out.drewN _, P.out⟩
          case measure => simp [intOf]; omega
        · obtain ⟨rfl, rfl⟩ := MISS.out (fun t => hx (t.1.resolve_left (by omega)))
          have qx : decide (0 < x) = true := decide_eq_true (by omega)
          clear HIT MISS
          go_wp2_with fail
          refine Ord.region [(0, 0), (1, 0), (2, 0), (3, 0), (4, 0), (5, 0), (6, 1), (7, 0), (8, 0), (9, 0), (10, 0), (11, 0), (12, 0), (13, 0), (14, 0), (15, 0), (16, 1), (17, 0), (18, 1), (19, 0), (20, 0), (21, 0), (22, 1), (23, 0), (24, 0), (25, 0)] (fun w' => Kept w5 w') (by kernel_rfl) (by kernel_rfl) (by kernel_rfl) (by kernel_rfl) (fun _ _ d _ _ h => by cases d <;> exact h) ((Kept.refl _).drewN _) ?_
          repeat
            refine Ord.step rfl (fun Ko hK => ?_)
            simp only [Ord.body]
            go_simp
            first
              | (refine hK _ _ ?_; clear hK Ko)
              | (refine ⟨_, fun w' hS => (by have c0 := hS.cell w1; have c1 := hS.cell d5; have c2 := hS.cell d3; simp only [c0, c1, c2, Result.andThen]; rfl), hK _ _ ?_⟩; clear hK Ko)
          refine Ord.done ?_
          go_wp2
          go_ret2
          exact ⟨rfl, HK3.out.trans (KN.out.drewN _)⟩
    · obtain rfl : k = m := by omega
      have e := HA.out
      rw [if_pos (planOk_iff.2 ⟨FIT.out, POK.out, HNO.out⟩)] at e
      obtain ⟨rfl, rfl⟩ := Prod.mk.inj e
      have CC := hid_of (totalR_calls (mp : Int) ao mp k cap es bo bc on wr (HE.out.kept (HK3.out.trans K)) (HJ.out.kept (HK3.out.trans K)) RGH.out SM.out)
      replace w0 := K.cell w0
      have HK5 := hid_of (HK3.out.trans K)
      clear CR HNO K HA e
      go_wp2_with fail
      refine CC.out.mono ?_
      rintro e w6 ⟨rfl, K6⟩
      have HK6 := hid_of (HK5.out.trans K6)
      clear HK5 K6 CC w0 w1
      go_wp2
      go_ret2
      exact ⟨rfl, HK6.out⟩
end Go.Proofs.Ytfgkneoimgknmaa
