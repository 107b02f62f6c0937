/- VouchDualSound: the walk of the law. -/
import Derived.Test.YtpdppjngbbkbbaaDoorVmF
import Derived.Test.YtpdppjngbbkbbaaDoorVmG
namespace Go.Proofs.YtpdppjngbbkbbaaDoor
open Go.RowKit

theorem chpAns_no {nodes : Int} {es : List Ed} {n : Nat} {m : List Int} {lm : Nat} {Y : List Int} {my : Nat} {ss : Sets} {ns : Nat} {v c : Int} (h : chpAns nodes es n m lm Y my ss ns = (v, c)) (hc : c ≠ 0) : v = 0 := by
  unfold chpAns at h
  split at h
  · exact (Prod.mk.inj h).1.symm
  · split at h
    · exact absurd (Prod.mk.inj h).2.symm hc
    · exact (Prod.mk.inj h).1.symm
theorem chpAns_ok {nodes : Int} {es : List Ed} {n : Nat} {m : List Int} {lm : Nat} {Y : List Int} {my : Nat} {ss : Sets} {ns : Nat} {v : Int} (h : chpAns nodes es n m lm Y my ss ns = (v, 0)) : (faultOf nodes es).1 = 0 ∧ v = csum es m lm ∧ ChpOk es nodes.toNat n m lm Y my ss ns := by
  unfold chpAns at h
  split at h
  · rename_i t; exact absurd (Prod.mk.inj h).2 t
  · rename_i t
    split at h
    · rename_i u; exact ⟨by simpa using t, (Prod.mk.inj h).1.symm, u⟩
    · exact absurd (Prod.mk.inj h).2 (by decide)

set_option maxRecDepth 100000 in
set_option linter.unusedSimpArgs false in
set_option maxHeartbeats 4000000 in
theorem vouchDualSoundWalk (nodes : Int) (ao : Option Addr) (n cap : Nat) (es : List Ed) (mo : Option Addr) (lm mc : Nat) (m : List Int) (yo : Option Addr) (my yc : Nat) (Y : List Int) (so : Option Addr) (ns sc : Nat) (ss : Sets) (oo : Option Addr) (lo oc : Nat) (o : List Int) (w : World) (h : ERow w ao n cap es) (hJ : JRow w mo lm mc m) (hY : JRow w yo my yc Y) (hS : DRow w so ns sc ss) (hO : JRow w oo lo oc o) (hT : Tab w) :
    Calls Tryd.prog 10 #[.agg #[.int .i64 nodes, .slice ao n cap], .agg #[.slice mo lm mc, .slice yo my yc, .slice so ns sc, .slice oo lo oc]] w fun e w' => e = .returned (.bool true) ∧ Below w.heap.size w w' := by
  have hnot : ∀ (x : Bool) (w : World), (Op.unary .not (.bool x)).run Tryd.prog w = .ok (.bool (!x)) w := fun _ _ => rfl
  have KW : Kept w ((w.alloc (Obj.cells #[.int .i64 nodes, .slice ao n cap] 24)).alloc (Obj.cells #[.slice mo lm mc, .slice yo my yc, .slice so ns sc, .slice oo lo oc] 77)) := ((Kept.refl w).alloc _).alloc _
  have g0 : ((w.alloc (Obj.cells #[.int .i64 nodes, .slice ao n cap] 24)).alloc (Obj.cells #[.slice mo lm mc, .slice yo my yc, .slice so ns sc, .slice oo lo oc] 77)).cell? ⟨w.heap.size, 0, none⟩ = some (.int .i64 nodes) := by simp [go_sem]
  have g1 : ((w.alloc (Obj.cells #[.int .i64 nodes, .slice ao n cap] 24)).alloc (Obj.cells #[.slice mo lm mc, .slice yo my yc, .slice so ns sc, .slice oo lo oc] 77)).cell? ⟨w.heap.size, 1, none⟩ = some (.slice ao n cap) := by simp [go_sem]
  have c0 : ((w.alloc (Obj.cells #[.int .i64 nodes, .slice ao n cap] 24)).alloc (Obj.cells #[.slice mo lm mc, .slice yo my yc, .slice so ns sc, .slice oo lo oc] 77)).cell? ⟨w.heap.size + 1, 0, none⟩ = some (.slice mo lm mc) := by simp [go_sem]
  have c1 : ((w.alloc (Obj.cells #[.int .i64 nodes, .slice ao n cap] 24)).alloc (Obj.cells #[.slice mo lm mc, .slice yo my yc, .slice so ns sc, .slice oo lo oc] 77)).cell? ⟨w.heap.size + 1, 1, none⟩ = some (.slice yo my yc) := by simp [go_sem]
  have c2 : ((w.alloc (Obj.cells #[.int .i64 nodes, .slice ao n cap] 24)).alloc (Obj.cells #[.slice mo lm mc, .slice yo my yc, .slice so ns sc, .slice oo lo oc] 77)).cell? ⟨w.heap.size + 1, 2, none⟩ = some (.slice so ns sc) := by simp [go_sem]
  have c3 : ((w.alloc (Obj.cells #[.int .i64 nodes, .slice ao n cap] 24)).alloc (Obj.cells #[.slice mo lm mc, .slice yo my yc, .slice so ns sc, .slice oo lo oc] 77)).cell? ⟨w.heap.size + 1, 3, none⟩ = some (.slice oo lo oc) := by simp [go_sem]
  obtain ⟨v1, e1, A1⟩ : ∃ v c, chpAns nodes es n m lm Y my ss ns = (v, c) := ⟨_, _, rfl⟩
  obtain ⟨z, A3⟩ : ∃ z, matAns nodes es n o lo = z := ⟨_, rfl⟩
  have hro := hO.room
  have hmo := hO.most
  unfold maxLen at hmo
  have HE := hid_of h
  have HJ := hid_of hJ
  have HY := hid_of hY
  have HS := hid_of hS
  have HO := hid_of hO
  have HT := hid_of hT
  have HA1 := hid_of A1
  have HA3 := hid_of A3
  clear h hJ hY hS hO hT A1 A3
  have V1 : Hid (e1 ≠ 0 → v1 = 0) := fun t => chpAns_no HA1.out t
  have GOOD : Hid (e1 = 0 → ∃ N : Nat, nodes = (N : Int) ∧ Right N n es ∧ (z = 0 → MatchOk es n o lo ∧ (2 * lo = N → v1 ≤ csum es o lo))) := fun he => by
    subst he
    obtain ⟨hf, rfl, ok⟩ := chpAns_ok HA1.out
    obtain ⟨N, rfl, RG⟩ := right_of (fault_zero hf)
    rw [← HE.out.len] at RG
    rw [Int.toNat_natCast] at ok
    refine ⟨N, rfl, RG, fun hz => ?_⟩
    rw [hz] at HA3
    obtain ⟨_, mok⟩ := matAns_ok HA3.out
    refine ⟨mok, fun hp => ?_⟩
    obtain ⟨o1, o2, o3, o4, o5⟩ := ok
    obtain rfl : my = N := o3.1.1
    have := dual_le RG o3 (fun i hi => o4 i hi) mok hp
    omega
  go_enter Tryd.func10, Tryd.ntmps10
  go_wp2_with fail
  generalize (w.alloc (Obj.cells #[.int .i64 nodes, .slice ao n cap] 24)).alloc (Obj.cells #[.slice mo lm mc, .slice yo my yc, .slice so ns sc, .slice oo lo oc] 77) = W1 at KW g0 g1 c0 c1 c2 c3 ⊢
  have KWH := hid_of KW
  refine (awake_calls W1).mono ?_
  rintro v w2 ⟨rfl, K2⟩
  have K := hid_of K2
  replace g0 := K2.cell g0
  replace g1 := K2.cell g1
  replace c0 := K2.cell c0
  replace c1 := K2.cell c1
  replace c2 := K2.cell c2
  replace c3 := K2.cell c3
  clear K2 KW
  go_wp2_with fail
  refine (cheap_calls nodes ao n cap es mo lm mc m yo my yc Y so ns sc ss w2 (HE.out.kept (KWH.out.trans K.out)) (HJ.out.kept (KWH.out.trans K.out)) (HY.out.kept (KWH.out.trans K.out)) (HS.out.kept (KWH.out.trans K.out)) (fun N hN => pairW_sets N hN yo my yc Y so ns sc ss w2 (HY.out.kept (KWH.out.trans K.out)) (HS.out.kept (KWH.out.trans K.out)) (HT.out.kept (KWH.out.trans K.out))) v1 e1 HA1).mono ?_
  rintro v w3 ⟨rfl, K2⟩
  replace K := hid_of (K.out.trans K2)
  replace g0 := K2.cell g0
  replace g1 := K2.cell g1
  replace c3 := K2.cell c3
  clear K2 c0 c1 c2
  by_cases h1 : e1 = 0
  rotate_left
  · have q1 : (e1 != 0) = true := by simpa using h1
    have z1 := V1.out h1
    have q3 : (v1 == 0) = true := by simpa using z1
    clear h1 z1 GOOD V1 HA1
    go_wp2
    go_ret
    exact ⟨rfl, KWH.out.trans K.out⟩
  have q1 : (e1 != 0) = false := by simpa using h1
  obtain ⟨N, hN, RG, hg⟩ := GOOD.out h1
  have HG := hid_of hg
  have RGH := hid_of RG
  have MR := hid_of (fun w' (K' : Kept w3 w') => matchingR_calls nodes ao n cap es oo lo oc o w' (HE.out.kept ((KWH.out.trans K.out).trans K')) (HO.out.kept ((KWH.out.trans K.out).trans K')) z HA3)
  clear hg RG GOOD V1 HA1 h1
  subst hN
  go_wp2_with fail
  refine (MR.out w3 (Kept.refl _)).mono ?_
  rintro v w4 ⟨rfl, K2⟩
  replace K := hid_of (K.out.trans K2)
  replace g0 := K2.cell g0
  replace g1 := K2.cell g1
  replace c3 := K2.cell c3
  clear K2 MR
  by_cases hz : z = 0
  rotate_left
  · have qz : (z != 0) = true := by simpa using hz
    clear hz HG
    go_wp2
    go_ret
    exact ⟨rfl, KWH.out.trans K.out⟩
  have qz : (z != 0) = false := by simpa using hz
  obtain ⟨ok, hle⟩ := HG.out hz
  have OK := hid_of ok
  have HLE := hid_of hle
  have lob : lo ≤ 4096 := by have := ok.1.len_le; have := RGH.out.edges; omega
  have WR : IntKind.i64.wrap (2 * (lo : Int)) = 2 * (lo : Int) := wrap_id (by omega) (by omega)
  clear ok hle hz HG
  by_cases hp : 2 * lo = N
  rotate_left
  · have qp : (2 * (lo : Int) != (N : Int)) = true := by simp; omega
    go_wp2
    go_ret
    exact ⟨rfl, KWH.out.trans K.out⟩
  have qp : (2 * (lo : Int) != (N : Int)) = false := by simp; omega
  have L1 := hid_of (HLE.out hp)
  have CO := hid_of (costR_calls (N : Int) N ao n cap es oo lo oc o w4 (HE.out.kept (KWH.out.trans K.out)) (HO.out.kept (KWH.out.trans K.out)) RGH.out (fun j hj => OK.out.1.rng hj) lob)
  obtain ⟨S, hS⟩ : ∃ S, csum es o lo = S := ⟨_, rfl⟩
  rw [hS] at CO L1
  have q4 : decide (v1 ≤ S) = true := decide_eq_true L1.out
  clear hp hS HLE
  go_wp2_with fail
  refine CO.out.mono ?_
  rintro v w6 ⟨rfl, K6⟩
  replace K := hid_of (K.out.trans K6)
  clear K6 CO g0 g1 c3
  go_wp2
  go_ret
  exact ⟨rfl, KWH.out.trans K.out⟩
end Go.Proofs.YtpdppjngbbkbbaaDoor
