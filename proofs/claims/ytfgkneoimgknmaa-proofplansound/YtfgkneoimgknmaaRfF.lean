/- The document's NoPlan. -/
import Derived.Test.YtfgkneoimgknmaaPrJ
import Derived.Test.YtfgkneoimgknmaaRfE
namespace Go.Proofs.Ytfgkneoimgknmaa
open Go.RowKit

set_option maxRecDepth 100000 in
set_option linter.unusedSimpArgs false in
set_option maxHeartbeats 4000000 in
theorem noPlanR_calls (nodes : Int) (ao : Option Addr) (n cap : Nat) (es : List Ed) (so : Option Addr) (ms cs : Nat) (sup : List Int) (bo : Option Addr) (k bc : Nat) (bs : List Bool) (w : World) (h : ERow w ao n cap es) (hS : JRow w so ms cs sup) (hB : BRow w bo k bc bs) (v : Int) (hans : Hid (noAns nodes es n sup ms bs k = v)) :
    Calls Try.prog 21 #[.agg #[.int .i64 nodes, .slice ao n cap], .slice so ms cs, .slice bo k bc] w fun e w' => e = .returned (.int .i64 v) ∧ Kept w w' := by
  have hr1 := hS.room
  have hm1 := hS.most
  have hr2 := hB.room
  have hm2 := hB.most
  unfold maxLen at hm1 hm2
  have KW : Kept w (w.alloc (Obj.cells #[.int .i64 nodes, .slice ao n cap] 24)) := (Kept.refl w).alloc _
  have w0 : (w.alloc (Obj.cells #[.int .i64 nodes, .slice ao n cap] 24)).cell? ⟨w.heap.size, 0, none⟩ = some (.int .i64 nodes) := by simp [go_sem]
  have w1 : (w.alloc (Obj.cells #[.int .i64 nodes, .slice ao n cap] 24)).cell? ⟨w.heap.size, 1, none⟩ = some (.slice ao n cap) := by simp [go_sem]
  have HE := hid_of h
  have HS := hid_of hS
  have HB := hid_of hB
  obtain ⟨z, hz⟩ : ∃ z, supCode nodes es sup ms = z := ⟨_, rfl⟩
  have SC := hid_of (supR_calls nodes ao n cap es so ms cs sup _ (h.kept KW) (hS.kept KW) z (hid_of hz))
  replace hans := hans.out
  unfold noAns at hans
  unfold supCode at hz
  clear h hS hB
  by_cases hne : z = 0
  rotate_left
  · obtain rfl : v = z := by
      split at hans
      · rename_i q; rw [if_pos q] at hz; exact hans.symm.trans hz
      · rename_i q
        rw [if_neg q] at hz
        split at hans
        · rename_i q; rw [if_pos q] at hz; exact hans.symm.trans hz
        · rename_i q; rw [if_neg q] at hz; exact absurd hz.symm hne
    have q : (v != 0) = true := by simpa using hne
    clear hans hz
    go_enter Try.func21, Try.ntmps21
    go_wp2_with fail
    refine SC.out.mono ?_
    rintro e wa ⟨rfl, K1⟩
    have HK := hid_of (KW.trans K1)
    clear KW K1 SC w0 w1
    go_wp2
    go_ret
    exact ⟨rfl, HK.out⟩
  subst hne
  have hc0 : (faultOf nodes es).1 = 0 := by
    by_cases q : (faultOf nodes es).1 = 0
    · exact q
    · rw [if_pos q] at hz; exact absurd hz q
  rw [if_neg (by simp [hc0])] at hans hz
  have hf := fault_zero hc0
  obtain ⟨N, rfl, RG⟩ := right_of hf
  rw [← HE.out.len] at RG
  simp only [Int.toNat_natCast] at hans hz
  have hsup : SupOk sup ms N := by
    by_cases q : SupOk sup ms N
    · exact q
    · rw [if_pos q] at hz; exact absurd hz (by decide)
  rw [if_neg (fun t => t hsup)] at hans
  obtain rfl : ms = N := hsup.1
  have HA := hid_of hans
  have RGH := hid_of RG
  have HSU := hid_of hsup
  have hN := RG.nodes
  clear hans hz hc0 RG hf hsup
  go_enter Try.func21, Try.ntmps21
  go_wp2_with fail
  refine SC.out.mono ?_
  rintro e wa ⟨rfl, K1⟩
  replace w0 := K1.cell w0
  replace w1 := K1.cell w1
  have HK := hid_of (KW.trans K1)
  clear KW K1 SC
  by_cases hkN : k = ms
  rotate_left
  · have q : ((k : Int) != (ms : Int)) = true := by simp; omega
    have e := HA.out
    rw [if_neg (fun t => hkN t.1)] at e
    subst e
    clear HA
    go_wp2
    go_ret
    exact ⟨rfl, HK.out⟩
  subst hkN
  have q : ((k : Int) != (k : Int)) = false := by simp
  go_wp2_with fail
  go_loopw [8, 9] (fun s i wr => ∃ (v : Nat), v ≤ k ∧ i = .int .i64 v ∧ s = .int .i64 (supTo (zAt sup) (bAt bs) v) ∧ wa = wr) (fun _ i _ => k - (intOf i).toNat)
  case atStart => exact ⟨0, by omega, rfl, rfl, rfl⟩
  case round =>
    obtain ⟨v, hv2, rfl, rfl, rfl⟩ := hrel
    obtain ⟨b1, b2⟩ := supTo_bd (bAt bs) (k := v) (fun i hi => HSU.out.2.1 i (by omega))
    by_cases hgo : (v : Int) < (k : Int)
    · obtain ⟨bb, off2, rfl, hc2⟩ := (HB.out.kept HK.out).at (by omega)
      have d1 := hc2 v (by omega)
      obtain ⟨b3, off3, rfl, hc3⟩ := (HS.out.kept HK.out).at (by omega)
      have d2 := hc3 v (by omega)
      obtain ⟨x1, x2⟩ := HSU.out.2.1 v (by omega)
      clear hc2 hc3
      have SU := hid_of (supTo_succ (zAt sup) (bAt bs) v)
      have b1' : -1073741824 ≤ supTo (zAt sup) (bAt bs) v := by omega
      have b2' : supTo (zAt sup) (bAt bs) v ≤ 1073741824 := by omega
      clear b1 b2
      generalize supTo (zAt sup) (bAt bs) v = sum at SU b1' b2'
      generalize zAt sup v = x at d2 SU x1 x2
      generalize bAt bs v = p at d1 SU
      cases p
      · have SV := SU.out
        rw [if_neg (by simp), Int.add_zero] at SV
        have SW := hid_of SV
        clear SU SV
        go_wp2_with fail
        go_roundw
        case rel => exact ⟨v + 1, by omega, by go_num, by rw [SW.out], by trivial⟩
        case measure => simp [intOf]; omega
      · have SV := SU.out
        rw [if_pos rfl] at SV
        have SW := hid_of SV
        have WR : IntKind.i64.wrap (sum + x) = sum + x := wrap_id (by omega) (by omega)
        clear SU SV
        go_wp2_with fail
        go_roundw
        case rel => exact ⟨v + 1, by omega, by go_num, by rw [SW.out], by trivial⟩
        case measure => simp [intOf]; omega
    · obtain rfl : v = k := by omega
      have CL := hid_of (cutR_calls (v : Int) ao v n cap es bo bc bs wa (HE.out.kept HK.out) (HB.out.kept HK.out) RGH.out)
      have e := HA.out
      have HIT : Hid (cutTo es (bAt bs) n < supTo (zAt sup) (bAt bs) v → NoOk es v n sup bs v) := fun t => ⟨rfl, t⟩
      have MISS : Hid (¬ cutTo es (bAt bs) n < supTo (zAt sup) (bAt bs) v → ¬ NoOk es v n sup bs v) := fun t q => t q.2
      clear b1 b2
      generalize cutTo es (bAt bs) n = c at CL HIT MISS
      generalize supTo (zAt sup) (bAt bs) v = s at HIT MISS ⊢
      go_wp2_with fail
      refine CL.out.mono ?_
      rintro e5 wb ⟨rfl, K2⟩
      have HK2 := hid_of (HK.out.trans K2)
      clear K2 HK CL
      by_cases hcs : c < s
      · rw [if_pos (HIT.out hcs)] at e
        subst e
        have qc : decide (s ≤ c) = false := decide_eq_false (by omega)
        clear HIT MISS HA
        go_wp2_with fail
        go_ret
        exact ⟨rfl, HK2.out⟩
      · rw [if_neg (MISS.out (by omega))] at e
        subst e
        have qc : decide (s ≤ c) = true := decide_eq_true (by omega)
        clear HIT MISS HA
        go_wp2_with fail
        go_ret
        exact ⟨rfl, HK2.out⟩
end Go.Proofs.Ytfgkneoimgknmaa
