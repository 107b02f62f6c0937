/- VouchManySound: the walk of the law. -/
import Derived.Test.YtkpfnkpkmbfajaaDoorVmC
import Derived.Test.YtkpfnkpkmbfajaaDoorVmA
namespace Go.Proofs.YtkpfnkpkmbfajaaDoor
open Go.RowKit

theorem manAns_no {nodes : Int} {es : List Ed} {n : Nat} {b : List Int} {mb : Nat} {m : List Int} {lm : Nat} {x : List Int} {lx : Nat} {v c : Int} (h : manAns nodes es n b mb m lm x lx = (v, c)) (hc : c ≠ 0) : v = 0 := by
  unfold manAns at h
  split at h
  · exact (Prod.mk.inj h).1.symm
  · split at h
    · exact (Prod.mk.inj h).1.symm
    · split at h
      · exact (Prod.mk.inj h).1.symm
      · split at h
        · exact absurd (Prod.mk.inj h).2.symm hc
        · exact (Prod.mk.inj h).1.symm
theorem manAns_ok {nodes : Int} {es : List Ed} {n : Nat} {b : List Int} {mb : Nat} {m : List Int} {lm : Nat} {x : List Int} {lx : Nat} {v : Int} (h : manAns nodes es n b mb m lm x lx = (v, 0)) : (faultOf nodes es).1 = 0 ∧ BndOk b mb nodes.toNat ∧ v = (lm : Int) ∧ ManOk es n nodes.toNat b m lm x lx := by
  unfold manAns at h
  split at h
  · rename_i t; exact absurd (Prod.mk.inj h).2 t
  · rename_i t
    split at h
    · exact absurd (Prod.mk.inj h).2 (by decide)
    · rename_i u
      split at h
      · exact absurd (Prod.mk.inj h).2 (by decide)
      · split at h
        · rename_i q
          exact ⟨by simpa using t, Classical.not_not.1 u, (Prod.mk.inj h).1.symm, q⟩
        · exact absurd (Prod.mk.inj h).2 (by decide)

set_option maxRecDepth 100000 in
set_option linter.unusedSimpArgs false in
set_option maxHeartbeats 4000000 in
theorem vouchManySoundWalk (nodes : Int) (ao : Option Addr) (n cap : Nat) (es : List Ed) (bo : Option Addr) (mb bc : Nat) (b : List Int) (mo : Option Addr) (lm mc : Nat) (m : List Int) (xo : Option Addr) (lx xc : Nat) (x : List Int) (oo : Option Addr) (lo oc : Nat) (o : List Int) (w : World) (h : ERow w ao n cap es) (hB : JRow w bo mb bc b) (hJ : JRow w mo lm mc m) (hX : JRow w xo lx xc x) (hO : JRow w oo lo oc o) :
    Calls Tryd.prog 11 #[.agg #[.int .i64 nodes, .slice ao n cap], .agg #[.slice bo mb bc, .slice mo lm mc, .slice xo lx xc, .slice oo lo oc]] w fun e w' => e = .returned (.bool true) ∧ Below w.heap.size w w' := by
  have hnot : ∀ (x : Bool) (w : World), (Op.unary .not (.bool x)).run Tryd.prog w = .ok (.bool (!x)) w := fun _ _ => rfl
  have KW : Kept w ((w.alloc (Obj.cells #[.int .i64 nodes, .slice ao n cap] 24)).alloc (Obj.cells #[.slice bo mb bc, .slice mo lm mc, .slice xo lx xc, .slice oo lo oc] 54)) := ((Kept.refl w).alloc _).alloc _
  have g0 : ((w.alloc (Obj.cells #[.int .i64 nodes, .slice ao n cap] 24)).alloc (Obj.cells #[.slice bo mb bc, .slice mo lm mc, .slice xo lx xc, .slice oo lo oc] 54)).cell? ⟨w.heap.size, 0, none⟩ = some (.int .i64 nodes) := by simp [go_sem]
  have g1 : ((w.alloc (Obj.cells #[.int .i64 nodes, .slice ao n cap] 24)).alloc (Obj.cells #[.slice bo mb bc, .slice mo lm mc, .slice xo lx xc, .slice oo lo oc] 54)).cell? ⟨w.heap.size, 1, none⟩ = some (.slice ao n cap) := by simp [go_sem]
  have c0 : ((w.alloc (Obj.cells #[.int .i64 nodes, .slice ao n cap] 24)).alloc (Obj.cells #[.slice bo mb bc, .slice mo lm mc, .slice xo lx xc, .slice oo lo oc] 54)).cell? ⟨w.heap.size + 1, 0, none⟩ = some (.slice bo mb bc) := by simp [go_sem]
  have c1 : ((w.alloc (Obj.cells #[.int .i64 nodes, .slice ao n cap] 24)).alloc (Obj.cells #[.slice bo mb bc, .slice mo lm mc, .slice xo lx xc, .slice oo lo oc] 54)).cell? ⟨w.heap.size + 1, 1, none⟩ = some (.slice mo lm mc) := by simp [go_sem]
  have c2 : ((w.alloc (Obj.cells #[.int .i64 nodes, .slice ao n cap] 24)).alloc (Obj.cells #[.slice bo mb bc, .slice mo lm mc, .slice xo lx xc, .slice oo lo oc] 54)).cell? ⟨w.heap.size + 1, 2, none⟩ = some (.slice xo lx xc) := by simp [go_sem]
  have c3 : ((w.alloc (Obj.cells #[.int .i64 nodes, .slice ao n cap] 24)).alloc (Obj.cells #[.slice bo mb bc, .slice mo lm mc, .slice xo lx xc, .slice oo lo oc] 54)).cell? ⟨w.heap.size + 1, 3, none⟩ = some (.slice oo lo oc) := by simp [go_sem]
  obtain ⟨v1, e1, A1⟩ : ∃ v c, manAns nodes es n b mb m lm x lx = (v, c) := ⟨_, _, rfl⟩
  have hro := hO.room
  have hmo := hO.most
  unfold maxLen at hmo
  have HE := hid_of h
  have HB := hid_of hB
  have HJ := hid_of hJ
  have HX := hid_of hX
  have HO := hid_of hO
  have HA1 := hid_of A1
  clear h hB hJ hX hO A1
  have V1 : Hid (e1 ≠ 0 → v1 = 0) := fun t => manAns_no HA1.out t
  go_enter Tryd.func11, Tryd.ntmps11
  go_wp2_with fail
  generalize (w.alloc (Obj.cells #[.int .i64 nodes, .slice ao n cap] 24)).alloc (Obj.cells #[.slice bo mb bc, .slice mo lm mc, .slice xo lx xc, .slice oo lo oc] 54) = W1 at KW g0 g1 c0 c1 c2 c3 ⊢
  have KWH := hid_of KW
  refine (awake_calls W1).mono ?_
  rintro v w2 ⟨rfl, K2⟩
  have K := hid_of K2
  replace g0 := K2.cell g0
  replace g1 := K2.cell g1
  replace c0 := K2.cell c0
  replace c1 := K2.cell c1
  replace c2 := K2.cell c2
  replace c3 := K2.cell c3
  clear K2 KW
  go_wp2_with fail
  refine (many_calls nodes ao n cap es bo mb bc b mo lm mc m xo lx xc x w2 (HE.out.kept (KWH.out.trans K.out)) (HB.out.kept (KWH.out.trans K.out)) (HJ.out.kept (KWH.out.trans K.out)) (HX.out.kept (KWH.out.trans K.out)) v1 e1 HA1).mono ?_
  rintro v w3 ⟨rfl, K2⟩
  replace K := hid_of (K.out.trans K2)
  replace g0 := K2.cell g0
  replace g1 := K2.cell g1
  replace c0 := K2.cell c0
  replace c3 := K2.cell c3
  clear K2 c1 c2
  by_cases h1 : e1 = 0
  rotate_left
  · have q1 : (e1 != 0) = true := by simpa using h1
    have z1 := V1.out h1
    have q3 : (v1 == 0) = true := by simpa using z1
    clear h1 z1 g0 g1 c0 c3
    go_wp2
    go_ret
    exact ⟨rfl, KWH.out.trans K.out⟩
  subst h1
  obtain ⟨hf, bnd, hv, man⟩ := manAns_ok HA1.out
  obtain ⟨N, rfl, RG⟩ := right_of (fault_zero hf)
  rw [← HE.out.len] at RG
  rw [Int.toNat_natCast] at bnd man
  have L : Hid (TakOk es n N b o lo → (lo : Int) ≤ v1) := fun t => by rw [hv]; exact many_le RG bnd man t
  obtain rfl : mb = N := bnd.1
  have TC := hid_of (takenR_calls mb ao n cap es oo lo oc o bo bc b w3 (HE.out.kept (KWH.out.trans K.out)) (HO.out.kept (KWH.out.trans K.out)) (HB.out.kept (KWH.out.trans K.out)) RG)
  clear hf bnd hv man RG HA1 V1
  go_wp2_with fail
  refine TC.out.mono ?_
  rintro v w4 ⟨K2, ⟨ok, rfl⟩ | ⟨ok, rfl⟩⟩
  · have q : decide ((lo : Int) ≤ v1) = true := decide_eq_true (L.out ok)
    replace K := hid_of (K.out.trans K2)
    replace c3 := K2.cell c3
    clear K2 TC g0 g1 c0 ok L
    go_wp2
    go_ret
    exact ⟨rfl, KWH.out.trans K.out⟩
  · replace K := hid_of (K.out.trans K2)
    clear K2 TC g0 g1 c0 c3 ok L
    go_wp2
    go_ret
    exact ⟨rfl, KWH.out.trans K.out⟩
end Go.Proofs.YtkpfnkpkmbfajaaDoor
