/- VouchBarrierSound: the walk of the law. -/
import Derived.Test.YtkpfnkpkmbfajaaDoorVmC
import Derived.Test.YtkpfnkpkmbfajaaDoorVmA
namespace Go.Proofs.YtkpfnkpkmbfajaaDoor
open Go.RowKit

theorem larAns_no {nodes : Int} {es : List Ed} {n : Nat} {m : List Int} {lm : Nat} {x : List Int} {lx : Nat} {v c : Int} (h : larAns nodes es n m lm x lx = (v, c)) (hc : c ≠ 0) : v = 0 := by
  unfold larAns at h
  split at h
  · exact (Prod.mk.inj h).1.symm
  · split at h
    · exact absurd (Prod.mk.inj h).2.symm hc
    · exact (Prod.mk.inj h).1.symm
theorem larAns_ok {nodes : Int} {es : List Ed} {n : Nat} {m : List Int} {lm : Nat} {x : List Int} {lx : Nat} {v : Int} (h : larAns nodes es n m lm x lx = (v, 0)) : v = (lm : Int) ∧ LarOk es nodes.toNat n m lm x lx := by
  unfold larAns at h
  split at h
  · rename_i t; exact absurd (Prod.mk.inj h).2 t
  · split at h
    · rename_i u; exact ⟨(Prod.mk.inj h).1.symm, u⟩
    · exact absurd (Prod.mk.inj h).2 (by decide)
theorem nopAns_ok {nodes : Int} {es : List Ed} {x : List Int} {lx : Nat} (h : nopAns nodes es x lx = 0) : NopOk es nodes.toNat x lx := by
  unfold nopAns at h
  split at h
  · rename_i t; exact absurd h t
  · split at h
    · rename_i u; exact u
    · exact absurd h (by decide)

set_option maxRecDepth 100000 in
set_option linter.unusedSimpArgs false in
set_option maxHeartbeats 4000000 in
theorem vouchBarrierSoundWalk (nodes : Int) (ao : Option Addr) (n cap : Nat) (es : List Ed) (mo : Option Addr) (lm mc : Nat) (m : List Int) (xo : Option Addr) (lx xc : Nat) (x : List Int) (oo : Option Addr) (lo oc : Nat) (o : List Int) (w : World) (h : ERow w ao n cap es) (hJ : JRow w mo lm mc m) (hX : JRow w xo lx xc x) (hO : JRow w oo lo oc o) :
    Calls Tryd.prog 9 #[.agg #[.int .i64 nodes, .slice ao n cap], .agg #[.slice mo lm mc, .slice xo lx xc, .slice oo lo oc]] w fun e w' => e = .returned (.bool true) ∧ Below w.heap.size w w' := by
  have hnot : ∀ (x : Bool) (w : World), (Op.unary .not (.bool x)).run Tryd.prog w = .ok (.bool (!x)) w := fun _ _ => rfl
  have KW : Kept w ((w.alloc (Obj.cells #[.int .i64 nodes, .slice ao n cap] 24)).alloc (Obj.cells #[.slice mo lm mc, .slice xo lx xc, .slice oo lo oc] 74)) := ((Kept.refl w).alloc _).alloc _
  have g0 : ((w.alloc (Obj.cells #[.int .i64 nodes, .slice ao n cap] 24)).alloc (Obj.cells #[.slice mo lm mc, .slice xo lx xc, .slice oo lo oc] 74)).cell? ⟨w.heap.size, 0, none⟩ = some (.int .i64 nodes) := by simp [go_sem]
  have g1 : ((w.alloc (Obj.cells #[.int .i64 nodes, .slice ao n cap] 24)).alloc (Obj.cells #[.slice mo lm mc, .slice xo lx xc, .slice oo lo oc] 74)).cell? ⟨w.heap.size, 1, none⟩ = some (.slice ao n cap) := by simp [go_sem]
  have c0 : ((w.alloc (Obj.cells #[.int .i64 nodes, .slice ao n cap] 24)).alloc (Obj.cells #[.slice mo lm mc, .slice xo lx xc, .slice oo lo oc] 74)).cell? ⟨w.heap.size + 1, 0, none⟩ = some (.slice mo lm mc) := by simp [go_sem]
  have c1 : ((w.alloc (Obj.cells #[.int .i64 nodes, .slice ao n cap] 24)).alloc (Obj.cells #[.slice mo lm mc, .slice xo lx xc, .slice oo lo oc] 74)).cell? ⟨w.heap.size + 1, 1, none⟩ = some (.slice xo lx xc) := by simp [go_sem]
  have c2 : ((w.alloc (Obj.cells #[.int .i64 nodes, .slice ao n cap] 24)).alloc (Obj.cells #[.slice mo lm mc, .slice xo lx xc, .slice oo lo oc] 74)).cell? ⟨w.heap.size + 1, 2, none⟩ = some (.slice oo lo oc) := by simp [go_sem]
  obtain ⟨v1, e1, A1⟩ : ∃ v c, larAns nodes es n m lm x lx = (v, c) := ⟨_, _, rfl⟩
  obtain ⟨e2, A2⟩ : ∃ c, nopAns nodes es x lx = c := ⟨_, rfl⟩
  obtain ⟨z, A3⟩ : ∃ z, matAns nodes es n o lo = z := ⟨_, rfl⟩
  have hro := hO.room
  have hmo := hO.most
  unfold maxLen at hmo
  have HE := hid_of h
  have HJ := hid_of hJ
  have HX := hid_of hX
  have HO := hid_of hO
  have HA1 := hid_of A1
  have HA2 := hid_of A2
  have HA3 := hid_of A3
  clear h hJ hX hO A1 A2 A3
  have V1 : Hid (e1 ≠ 0 → v1 = 0) := fun t => larAns_no HA1.out t
  have GOOD : Hid (z = 0 → lo ≤ 4096 ∧ (e1 = 0 → (lo : Int) ≤ v1) ∧ (e2 = 0 → 2 * (lo : Int) < nodes)) := fun hz => by
    rw [hz] at HA3
    obtain ⟨hf, ok⟩ := matAns_ok HA3.out
    obtain ⟨N, rfl, RG⟩ := right_of (fault_zero hf)
    rw [← HE.out.len] at RG
    have b := barrier_le RG ok (x := x) (lx := lx)
    refine ⟨by have := ok.1.len_le; have := RG.edges; omega, fun t => ?_, fun t => ?_⟩
    · subst t
      obtain ⟨rfl, cv⟩ := larAns_ok HA1.out
      rw [Int.toNat_natCast] at cv
      have := cv.2.2
      omega
    · rw [t] at HA2
      have nv := nopAns_ok HA2.out
      rw [Int.toNat_natCast] at nv
      have := nv.2
      omega
  go_enter Tryd.func9, Tryd.ntmps9
  go_wp2_with fail
  generalize (w.alloc (Obj.cells #[.int .i64 nodes, .slice ao n cap] 24)).alloc (Obj.cells #[.slice mo lm mc, .slice xo lx xc, .slice oo lo oc] 74) = W1 at KW g0 g1 c0 c1 c2 ⊢
  have KWH := hid_of KW
  refine (awake_calls W1).mono ?_
  rintro v w2 ⟨rfl, K2⟩
  have K := hid_of K2
  replace g0 := K2.cell g0
  replace g1 := K2.cell g1
  replace c0 := K2.cell c0
  replace c1 := K2.cell c1
  replace c2 := K2.cell c2
  clear K2 KW
  go_wp2_with fail
  refine (large_calls nodes ao n cap es mo lm mc m xo lx xc x w2 (HE.out.kept (KWH.out.trans K.out)) (HJ.out.kept (KWH.out.trans K.out)) (HX.out.kept (KWH.out.trans K.out)) v1 e1 HA1).mono ?_
  rintro v w3 ⟨rfl, K2⟩
  replace K := hid_of (K.out.trans K2)
  replace g0 := K2.cell g0
  replace g1 := K2.cell g1
  replace c1 := K2.cell c1
  replace c2 := K2.cell c2
  clear K2 c0
  go_wp2_with fail
  refine (noPerf_calls nodes ao n cap es xo lx xc x w3 (HE.out.kept (KWH.out.trans K.out)) (HX.out.kept (KWH.out.trans K.out)) e2 HA2).mono ?_
  rintro v w4 ⟨rfl, K2⟩
  replace K := hid_of (K.out.trans K2)
  replace g0 := K2.cell g0
  replace g1 := K2.cell g1
  replace c2 := K2.cell c2
  clear K2 c1
  go_wp2_with fail
  refine (matchingR_calls nodes ao n cap es oo lo oc o w4 (HE.out.kept (KWH.out.trans K.out)) (HO.out.kept (KWH.out.trans K.out)) z HA3).mono ?_
  rintro v w5 ⟨rfl, K2⟩
  replace K := hid_of (K.out.trans K2)
  replace g0 := K2.cell g0
  replace g1 := K2.cell g1
  replace c2 := K2.cell c2
  clear K2
  by_cases hz : z = 0
  rotate_left
  · have qz : (z != 0) = true := by simpa using hz
    clear hz g0 g1 GOOD c2
    by_cases h1 : e1 = 0
    · have q1 : (e1 == 0) = true := by simpa using h1
      clear h1
      go_wp2
      go_ret
      exact ⟨rfl, KWH.out.trans K.out⟩
    · have q1 : (e1 == 0) = false := by simpa using h1
      have z1 := V1.out h1
      have q3 : (v1 == 0) = true := by simpa using z1
      clear h1 z1
      go_wp2
      go_ret
      exact ⟨rfl, KWH.out.trans K.out⟩
  · obtain ⟨lob, L1, L2⟩ := GOOD.out hz
    have qz : (z != 0) = false := by simpa using hz
    have L1H := hid_of L1
    have L2H := hid_of L2
    have WR : IntKind.i64.wrap (2 * (lo : Int)) = 2 * (lo : Int) := wrap_id (by omega) (by omega)
    clear hz L1 L2 GOOD
    by_cases h1 : e1 = 0
    · have q1 : (e1 != 0) = false := by simpa using h1
      have q3 : decide ((lo : Int) ≤ v1) = true := decide_eq_true (L1H.out h1)
      clear h1
      by_cases h2 : e2 = 0
      · have q2 : (e2 != 0) = false := by simpa using h2
        have q4 : decide (2 * (lo : Int) < nodes) = true := decide_eq_true (L2H.out h2)
        clear h2
        go_wp2
        go_ret
        exact ⟨rfl, KWH.out.trans K.out⟩
      · have q2 : (e2 != 0) = true := by simpa using h2
        clear h2
        go_wp2
        go_ret
        exact ⟨rfl, KWH.out.trans K.out⟩
    · have q1 : (e1 != 0) = true := by simpa using h1
      clear h1
      by_cases h2 : e2 = 0
      · have q2 : (e2 != 0) = false := by simpa using h2
        have q4 : decide (2 * (lo : Int) < nodes) = true := decide_eq_true (L2H.out h2)
        clear h2
        go_wp2
        go_ret
        exact ⟨rfl, KWH.out.trans K.out⟩
      · have q2 : (e2 != 0) = true := by simpa using h2
        clear h2
        go_wp2
        go_ret
        exact ⟨rfl, KWH.out.trans K.out⟩
end Go.Proofs.YtkpfnkpkmbfajaaDoor
