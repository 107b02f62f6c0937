/- ProofFlows and ProofFlowSound: the walks of the laws. -/
import Derived.Test.YtfgkneoimgknmaaPrS
import Derived.Test.YtfgkneoimgknmaaRfE
namespace Go.Proofs.Ytfgkneoimgknmaa
open Go.RowKit

set_option maxRecDepth 100000 in
set_option linter.unusedSimpArgs false in
set_option maxHeartbeats 2000000 in
theorem proofFlowsWalk (nodes : Int) (ao : Option Addr) (n cap : Nat) (es : List Ed) (s t : Int) (bo : Option Addr) (m bc : Nat) (on : List Int) (so : Option Addr) (k sc : Nat) (bs : List Bool) (w : World) (h : ERow w ao n cap es) (hJ : JRow w bo m bc on) (hB : BRow w so k sc bs) :
    Calls Try.prog 3 #[.agg #[.int .i64 nodes, .slice ao n cap], .agg #[.int .i64 s, .int .i64 t, .slice bo m bc, .slice so k sc]] w fun e w' => e = .returned (.bool true) ∧ Kept w w' := by
  obtain ⟨v, code, hans⟩ : ∃ v code, maxAns nodes es n s t on m bs k = (v, code) := ⟨_, _, rfl⟩
  have hnot : ∀ (x : Bool) (w : World), (Op.unary .not (.bool x)).run Try.prog w = .ok (.bool (!x)) w := fun _ _ => rfl
  have KW : Kept w ((w.alloc (Obj.cells #[.int .i64 nodes, .slice ao n cap] 24)).alloc (Obj.cells #[.int .i64 s, .int .i64 t, .slice bo m bc, .slice so k sc] 28)) := ((Kept.refl w).alloc _).alloc _
  have hG : GBox ((w.alloc (Obj.cells #[.int .i64 nodes, .slice ao n cap] 24)).alloc (Obj.cells #[.int .i64 s, .int .i64 t, .slice bo m bc, .slice so k sc] 28)) w.heap.size nodes ao n cap := ⟨by simp [go_sem], by simp [go_sem]⟩
  have hF : Box4 ((w.alloc (Obj.cells #[.int .i64 nodes, .slice ao n cap] 24)).alloc (Obj.cells #[.int .i64 s, .int .i64 t, .slice bo m bc, .slice so k sc] 28)) (w.heap.size + 1) (.int .i64 s) (.int .i64 t) (.slice bo m bc) (.slice so k sc) := ⟨by simp [go_sem], by simp [go_sem], by simp [go_sem], by simp [go_sem]⟩
  obtain ⟨g0, g1⟩ := hG
  obtain ⟨f0, f1, f2, f3⟩ := hF
  have HE := hid_of h
  have HJ := hid_of hJ
  have HB := hid_of hB
  have HA := hid_of hans
  clear h hJ hB hans
  go_enter Try.func3, Try.ntmps3
  go_wp2_with fail
  generalize (w.alloc (Obj.cells #[.int .i64 nodes, .slice ao n cap] 24)).alloc (Obj.cells #[.int .i64 s, .int .i64 t, .slice bo m bc, .slice so k sc] 28) = W1 at KW g0 g1 f0 f1 f2 f3 ⊢
  refine (awake_calls W1).mono ?_
  rintro e wa ⟨rfl, K1⟩
  replace g0 := K1.cell g0
  replace g1 := K1.cell g1
  replace f0 := K1.cell f0
  replace f1 := K1.cell f1
  replace f2 := K1.cell f2
  replace f3 := K1.cell f3
  have HK := hid_of (KW.trans K1)
  clear K1 KW
  go_wp2_with fail
  refine (max_calls nodes ao n cap es s t bo m bc on so k sc bs wa (HE.out.kept HK.out) (HJ.out.kept HK.out) (HB.out.kept HK.out) v code HA).mono ?_
  rintro e wb ⟨rfl, K2⟩
  replace g0 := K2.cell g0
  replace g1 := K2.cell g1
  replace f0 := K2.cell f0
  replace f1 := K2.cell f1
  replace f2 := K2.cell f2
  replace f3 := K2.cell f3
  have HK2 := hid_of (HK.out.trans K2)
  clear K2 HK
  go_wp2_with fail
  refine (maxR_calls nodes ao n cap es s t bo m bc on so k sc bs wb (HE.out.kept HK2.out) (HJ.out.kept HK2.out) (HB.out.kept HK2.out) v code HA).mono ?_
  rintro e wc ⟨rfl, K3⟩
  have HK3 := hid_of (HK2.out.trans K3)
  clear K3 HK2 g0 g1 f0 f1 f2 f3
  have q1 : (v == v) = true := by simp
  have q2 : (code == code) = true := by simp
  go_wp2
  go_ret
  exact ⟨rfl, HK3.out⟩

/-- What Max takes is a greatest flow. -/
theorem max_sound {nodes : Int} {es : List Ed} {n : Nat} {s t : Int} {on : List Int} {m : Nat} {bs : List Bool} {k : Nat} {v : Int} (h : maxAns nodes es n s t on m bs k = (v, 0)) (hn : n = es.length) :
    ∃ N s' t' : Nat, nodes = (N : Int) ∧ s = (s' : Int) ∧ t = (t' : Int) ∧ s' < N ∧ t' < N ∧ s' ≠ t' ∧ Right N n es ∧
      ∀ oth : List Int, FitsAll es N n oth n (flowSupW s' t' (outWT es (zAt oth) s n)) → outWT es (zAt oth) s n ≤ v := by
  unfold maxAns at h
  by_cases hc : (faultOf nodes es).1 = 0
  rotate_left
  · rw [if_pos hc] at h; exact absurd (Prod.mk.inj h).2 hc
  rw [if_neg (by simp [hc])] at h
  by_cases hb : ¬ (0 ≤ s ∧ s < nodes) ∨ ¬ (0 ≤ t ∧ t < nodes)
  · rw [if_pos hb] at h; exact absurd (Prod.mk.inj h).2 (by decide)
  rw [if_neg hb] at h
  by_cases hst : s = t
  · rw [if_pos hst] at h; exact absurd (Prod.mk.inj h).2 (by decide)
  rw [if_neg hst] at h
  obtain ⟨N, rfl, RG⟩ := right_of (fault_zero hc)
  rw [← hn] at RG
  have hs : 0 ≤ s ∧ s < (N : Int) := Classical.not_not.1 fun t => hb (.inl t)
  have ht : 0 ≤ t ∧ t < (N : Int) := Classical.not_not.1 fun t => hb (.inr t)
  obtain ⟨s', rfl⟩ : ∃ s' : Nat, s = (s' : Int) := ⟨s.toNat, by omega⟩
  obtain ⟨t', rfl⟩ : ∃ t' : Nat, t = (t' : Int) := ⟨t.toNat, by omega⟩
  simp only [Int.toNat_natCast] at h
  by_cases ok : MaxOk es N n on m bs k s' t'
  rotate_left
  · rw [if_neg ok] at h; exact absurd (Prod.mk.inj h).2 (by decide)
  rw [if_pos ok] at h
  obtain ⟨rfl, -⟩ := Prod.mk.inj h
  refine ⟨N, s', t', rfl, rfl, rfl, by omega, by omega, fun e => hst (by rw [e]), RG, fun oth hf => ?_⟩
  have sm := fits_small RG hf.1
  have e := outWT_eq RG.edges es (zAt oth) sm (s' : Int) n (Nat.le_refl _)
  have b := out_bd RG.edges es (zAt oth) sm (s' : Int) n (Nat.le_refl _)
  rw [e] at hf ⊢
  rw [FitsAll.congr (fun v _ => flowSup_eq (s := s') (t := t') (by omega) v)] at hf
  obtain ⟨-, -, -, ⟨h1, h2⟩, -⟩ := ok
  exact flow_le es (zAt oth) N n RG.ends hf.1.2 s' t' (by omega) (by omega) (bAt bs) (by simpa using h1) (by simpa using h2) _ hf.2 (fun e => hst e)

set_option maxRecDepth 100000 in
set_option linter.unusedSimpArgs false in
set_option maxHeartbeats 2000000 in
theorem proofFlowSoundWalk (nodes : Int) (ao : Option Addr) (n cap : Nat) (es : List Ed) (s t : Int) (bo : Option Addr) (m bc : Nat) (on : List Int) (so : Option Addr) (k sc : Nat) (bs : List Bool) (oo : Option Addr) (mo oc : Nat) (oth : List Int) (w : World) (h : ERow w ao n cap es) (hJ : JRow w bo m bc on) (hB : BRow w so k sc bs) (hO : JRow w oo mo oc oth) :
    Calls Try.prog 7 #[.agg #[.int .i64 nodes, .slice ao n cap], .agg #[.int .i64 s, .int .i64 t, .slice bo m bc, .slice so k sc], .slice oo mo oc] w fun e w' => e = .returned (.bool true) ∧ Kept w w' := by
  obtain ⟨v, code, hans⟩ : ∃ v code, maxAns nodes es n s t on m bs k = (v, code) := ⟨_, _, rfl⟩
  have hnot : ∀ (x : Bool) (w : World), (Op.unary .not (.bool x)).run Try.prog w = .ok (.bool (!x)) w := fun _ _ => rfl
  have KW : Kept w ((w.alloc (Obj.cells #[.int .i64 nodes, .slice ao n cap] 24)).alloc (Obj.cells #[.int .i64 s, .int .i64 t, .slice bo m bc, .slice so k sc] 28)) := ((Kept.refl w).alloc _).alloc _
  have hG : GBox ((w.alloc (Obj.cells #[.int .i64 nodes, .slice ao n cap] 24)).alloc (Obj.cells #[.int .i64 s, .int .i64 t, .slice bo m bc, .slice so k sc] 28)) w.heap.size nodes ao n cap := ⟨by simp [go_sem], by simp [go_sem]⟩
  have hF : Box4 ((w.alloc (Obj.cells #[.int .i64 nodes, .slice ao n cap] 24)).alloc (Obj.cells #[.int .i64 s, .int .i64 t, .slice bo m bc, .slice so k sc] 28)) (w.heap.size + 1) (.int .i64 s) (.int .i64 t) (.slice bo m bc) (.slice so k sc) := ⟨by simp [go_sem], by simp [go_sem], by simp [go_sem], by simp [go_sem]⟩
  obtain ⟨g0, g1⟩ := hG
  obtain ⟨f0, f1, f2, f3⟩ := hF
  have HE := hid_of h
  have HJ := hid_of hJ
  have HB := hid_of hB
  have HO := hid_of hO
  have HA := hid_of hans
  have hlen := hid_of h.len
  clear h hJ hB hO hans
  go_enter Try.func7, Try.ntmps7
  go_wp2_with fail
  generalize (w.alloc (Obj.cells #[.int .i64 nodes, .slice ao n cap] 24)).alloc (Obj.cells #[.int .i64 s, .int .i64 t, .slice bo m bc, .slice so k sc] 28) = W1 at KW g0 g1 f0 f1 f2 f3 ⊢
  refine (awake_calls W1).mono ?_
  rintro e wa ⟨rfl, K1⟩
  replace g0 := K1.cell g0
  replace g1 := K1.cell g1
  replace f0 := K1.cell f0
  replace f1 := K1.cell f1
  replace f2 := K1.cell f2
  replace f3 := K1.cell f3
  have HK := hid_of (KW.trans K1)
  clear K1 KW
  go_wp2_with fail
  refine (max_calls nodes ao n cap es s t bo m bc on so k sc bs wa (HE.out.kept HK.out) (HJ.out.kept HK.out) (HB.out.kept HK.out) v code HA).mono ?_
  rintro e wb ⟨rfl, K2⟩
  replace g0 := K2.cell g0
  replace g1 := K2.cell g1
  replace f0 := K2.cell f0
  replace f1 := K2.cell f1
  have HK2 := hid_of (HK.out.trans K2)
  clear K2 HK f2 f3
  by_cases hcode : code = 0
  rotate_left
  · have q : (code != 0) = true := by simpa using hcode
    obtain rfl : v = 0 := by
      have := HA.out
      unfold maxAns at this
      split at this
      · exact (Prod.mk.inj this).1.symm
      · split at this
        · exact (Prod.mk.inj this).1.symm
        · split at this
          · exact (Prod.mk.inj this).1.symm
          · split at this
            · exact absurd (Prod.mk.inj this).2.symm hcode
            · exact (Prod.mk.inj this).1.symm
    clear HA
    go_wp2
    go_ret
    exact ⟨rfl, HK2.out⟩
  subst hcode
  obtain ⟨N, s', t', rfl, rfl, rfl, hs, ht, hne, RG, snd⟩ := max_sound HA.out hlen.out
  have RGH := hid_of RG
  have SND := hid_of snd
  clear RG snd HA
  by_cases hmo : mo = n
  rotate_left
  · have q : ((mo : Int) != (n : Int)) = true := by simp; omega
    go_wp2
    go_ret
    exact ⟨rfl, HK2.out⟩
  subst hmo
  have q : ((mo : Int) != (mo : Int)) = false := by simp
  go_wp2_with fail
  refine (outR_calls (N : Int) ao mo cap es oo mo oc oth (s' : Int) wb (HE.out.kept HK2.out) (HO.out.kept HK2.out) (Nat.le_refl _)).mono ?_
  rintro e wc ⟨rfl, K3⟩
  replace g0 := K3.cell g0
  replace g1 := K3.cell g1
  replace f0 := K3.cell f0
  replace f1 := K3.cell f1
  have HK3 := hid_of (HK2.out.trans K3)
  have SN2 := hid_of (SND.out oth)
  clear K3 HK2 SND
  generalize outWT es (zAt oth) (s' : Int) mo = x at SN2 ⊢
  go_wp2_with fail
  refine (flowsR_calls ao N mo cap es s' t' oo mo oc oth x wc (HE.out.kept HK3.out) (HO.out.kept HK3.out) RGH.out hs ht).mono ?_
  rintro e wd ⟨K4, ⟨fit, rfl⟩ | ⟨fit, rfl⟩⟩
  · have hle := SN2.out fit
    have qd : decide (x ≤ v) = true := decide_eq_true hle
    have HK4 := hid_of (HK3.out.trans K4)
    clear fit SN2 K4 HK3 g0 g1 f0 f1
    go_wp2
    go_ret
    exact ⟨rfl, HK4.out⟩
  · have HK4 := hid_of (HK3.out.trans K4)
    clear fit SN2 K4 HK3 g0 g1 f0 f1
    go_wp2
    go_ret
    exact ⟨rfl, HK4.out⟩
end Go.Proofs.Ytfgkneoimgknmaa
