/- VouchEvenSound: the walk of the law. -/
import Derived.Test.YtpdppjngbbkbbaaDoorVmJ
import Derived.Test.YtpdppjngbbkbbaaDoorVmG
namespace Go.Proofs.YtpdppjngbbkbbaaDoor
open Go.RowKit

theorem dblAns_no {nodes : Int} {es : List Ed} {n : Nat} {m : List Int} {lm : Nat} {ds : List (List Int)} {nd : Nat} {Y : List Int} {my : Nat} {ss : Sets} {ns : Nat} {v c : Int} (h : dblAns nodes es n m lm ds nd Y my ss ns = (v, c)) (hc : c ≠ 0) : v = 0 := by
  unfold dblAns at h
  split at h
  · exact (Prod.mk.inj h).1.symm
  · split at h
    · exact (Prod.mk.inj h).1.symm
    · split at h
      · exact absurd (Prod.mk.inj h).2.symm hc
      · exact (Prod.mk.inj h).1.symm
theorem dblAns_ok {nodes : Int} {es : List Ed} {n : Nat} {m : List Int} {lm : Nat} {ds : List (List Int)} {nd : Nat} {Y : List Int} {my : Nat} {ss : Sets} {ns : Nat} {v : Int} (h : dblAns nodes es n m lm ds nd Y my ss ns = (v, 0)) : (faultOf nodes es).1 = 0 ∧ NoMinus es n ∧ v = csum es (allTo n) n + csum es m lm ∧ DblOk es nodes.toNat n m lm ds nd Y my ss ns := by
  unfold dblAns at h
  split at h
  · rename_i t; exact absurd (Prod.mk.inj h).2 t
  · rename_i t
    split at h
    · exact absurd (Prod.mk.inj h).2 (by decide)
    · rename_i t2
      split at h
      · rename_i u; exact ⟨by simpa using t, Classical.not_not.1 t2, (Prod.mk.inj h).1.symm, u⟩
      · exact absurd (Prod.mk.inj h).2 (by decide)

set_option maxRecDepth 100000 in
set_option linter.unusedSimpArgs false in
set_option maxHeartbeats 4000000 in
theorem vouchEvenSoundWalk (nodes : Int) (ao : Option Addr) (n cap : Nat) (es : List Ed) (mo : Option Addr) (lm mc : Nat) (m : List Int) (dO : Option Addr) (nd dc : Nat) (ds : List (List Int)) (yo : Option Addr) (my yc : Nat) (Y : List Int) (so : Option Addr) (ns sc : Nat) (ss : Sets) (oo : Option Addr) (lo oc : Nat) (o : List Int) (w : World) (h : ERow w ao n cap es) (hJ : JRow w mo lm mc m) (hD : LRow w dO nd dc ds) (hY : JRow w yo my yc Y) (hS : DRow w so ns sc ss) (hO : JRow w oo lo oc o) (hT : Tab w) :
    Calls Tryd.prog 12 #[.agg #[.int .i64 nodes, .slice ao n cap], .agg #[.slice mo lm mc, .slice dO nd dc, .slice yo my yc, .slice so ns sc, .slice oo lo oc]] w fun e w' => e = .returned (.bool true) ∧ Below w.heap.size w w' := by
  have hnot : ∀ (x : Bool) (w : World), (Op.unary .not (.bool x)).run Tryd.prog w = .ok (.bool (!x)) w := fun _ _ => rfl
  have KW : Kept w ((w.alloc (Obj.cells #[.int .i64 nodes, .slice ao n cap] 24)).alloc (Obj.cells #[.slice mo lm mc, .slice dO nd dc, .slice yo my yc, .slice so ns sc, .slice oo lo oc] 67)) := ((Kept.refl w).alloc _).alloc _
  have g0 : ((w.alloc (Obj.cells #[.int .i64 nodes, .slice ao n cap] 24)).alloc (Obj.cells #[.slice mo lm mc, .slice dO nd dc, .slice yo my yc, .slice so ns sc, .slice oo lo oc] 67)).cell? ⟨w.heap.size, 0, none⟩ = some (.int .i64 nodes) := by simp [go_sem]
  have g1 : ((w.alloc (Obj.cells #[.int .i64 nodes, .slice ao n cap] 24)).alloc (Obj.cells #[.slice mo lm mc, .slice dO nd dc, .slice yo my yc, .slice so ns sc, .slice oo lo oc] 67)).cell? ⟨w.heap.size, 1, none⟩ = some (.slice ao n cap) := by simp [go_sem]
  have c0 : ((w.alloc (Obj.cells #[.int .i64 nodes, .slice ao n cap] 24)).alloc (Obj.cells #[.slice mo lm mc, .slice dO nd dc, .slice yo my yc, .slice so ns sc, .slice oo lo oc] 67)).cell? ⟨w.heap.size + 1, 0, none⟩ = some (.slice mo lm mc) := by simp [go_sem]
  have c1 : ((w.alloc (Obj.cells #[.int .i64 nodes, .slice ao n cap] 24)).alloc (Obj.cells #[.slice mo lm mc, .slice dO nd dc, .slice yo my yc, .slice so ns sc, .slice oo lo oc] 67)).cell? ⟨w.heap.size + 1, 1, none⟩ = some (.slice dO nd dc) := by simp [go_sem]
  have c2 : ((w.alloc (Obj.cells #[.int .i64 nodes, .slice ao n cap] 24)).alloc (Obj.cells #[.slice mo lm mc, .slice dO nd dc, .slice yo my yc, .slice so ns sc, .slice oo lo oc] 67)).cell? ⟨w.heap.size + 1, 2, none⟩ = some (.slice yo my yc) := by simp [go_sem]
  have c3 : ((w.alloc (Obj.cells #[.int .i64 nodes, .slice ao n cap] 24)).alloc (Obj.cells #[.slice mo lm mc, .slice dO nd dc, .slice yo my yc, .slice so ns sc, .slice oo lo oc] 67)).cell? ⟨w.heap.size + 1, 3, none⟩ = some (.slice so ns sc) := by simp [go_sem]
  have c4 : ((w.alloc (Obj.cells #[.int .i64 nodes, .slice ao n cap] 24)).alloc (Obj.cells #[.slice mo lm mc, .slice dO nd dc, .slice yo my yc, .slice so ns sc, .slice oo lo oc] 67)).cell? ⟨w.heap.size + 1, 4, none⟩ = some (.slice oo lo oc) := by simp [go_sem]
  obtain ⟨v1, e1, A1⟩ : ∃ v c, dblAns nodes es n m lm ds nd Y my ss ns = (v, c) := ⟨_, _, rfl⟩
  have HE := hid_of h
  have HJ := hid_of hJ
  have HD := hid_of hD
  have HY := hid_of hY
  have HS := hid_of hS
  have HO := hid_of hO
  have HT := hid_of hT
  have HA1 := hid_of A1
  clear h hJ hD hY hS hO hT A1
  have V1 : Hid (e1 ≠ 0 → v1 = 0) := fun t => dblAns_no HA1.out t
  have GOOD : Hid (e1 = 0 → ∃ N : Nat, nodes = (N : Int) ∧ Right N n es ∧ ∃ s2, v1 = csum es (allTo n) n + s2 ∧ (-4294967296 ≤ csum es (allTo n) n ∧ csum es (allTo n) n ≤ 4294967296) ∧ (EvOk es N n o lo → s2 ≤ csum es o lo)) := fun he => by
    subst he
    obtain ⟨hf, hm, rfl, ok⟩ := dblAns_ok HA1.out
    obtain ⟨N, rfl, RG⟩ := right_of (fault_zero hf)
    rw [← HE.out.len] at RG
    rw [Int.toNat_natCast] at ok
    refine ⟨N, rfl, RG, _, rfl, ?_, fun t => even_le RG hm ok t⟩
    have b := csum_bd RG (c := allTo n) (L := n) (fun j hj => by rw [allTo_at hj]; omega) n (Nat.le_refl _)
    have := RG.edges
    omega
  go_enter Tryd.func12, Tryd.ntmps12
  go_wp2_with fail
  generalize (w.alloc (Obj.cells #[.int .i64 nodes, .slice ao n cap] 24)).alloc (Obj.cells #[.slice mo lm mc, .slice dO nd dc, .slice yo my yc, .slice so ns sc, .slice oo lo oc] 67) = W1 at KW g0 g1 c0 c1 c2 c3 c4 ⊢
  have KWH := hid_of KW
  refine (awake_calls W1).mono ?_
  rintro v w2 ⟨rfl, K2⟩
  have K := hid_of K2
  replace g0 := K2.cell g0
  replace g1 := K2.cell g1
  replace c0 := K2.cell c0
  replace c1 := K2.cell c1
  replace c2 := K2.cell c2
  replace c3 := K2.cell c3
  replace c4 := K2.cell c4
  clear K2 KW
  go_wp2_with fail
  refine (doubled_calls nodes ao n cap es mo lm mc m dO nd dc ds yo my yc Y so ns sc ss w2 (HE.out.kept (KWH.out.trans K.out)) (HJ.out.kept (KWH.out.trans K.out)) (HD.out.kept (KWH.out.trans K.out)) (HY.out.kept (KWH.out.trans K.out)) (HS.out.kept (KWH.out.trans K.out)) (fun N hN => pairW_sets N hN yo my yc Y so ns sc ss w2 (HY.out.kept (KWH.out.trans K.out)) (HS.out.kept (KWH.out.trans K.out)) (HT.out.kept (KWH.out.trans K.out))) v1 e1 HA1).mono ?_
  rintro v w3 ⟨rfl, K2⟩
  replace K := hid_of (K.out.trans K2)
  replace g0 := K2.cell g0
  replace g1 := K2.cell g1
  replace c4 := K2.cell c4
  clear K2 c0 c1 c2 c3
  by_cases h1 : e1 = 0
  rotate_left
  · have q1 : (e1 != 0) = true := by simpa using h1
    have z1 := V1.out h1
    have q3 : (v1 == 0) = true := by simpa using z1
    clear h1 z1 GOOD V1 HA1
    go_wp2
    go_ret
    exact ⟨rfl, KWH.out.trans K.out⟩
  have q1 : (e1 != 0) = false := by simpa using h1
  obtain ⟨N, hN, RG, s2, hv1, hab, hle⟩ := GOOD.out h1
  have HLE := hid_of hle
  have RGH := hid_of RG
  have hn := RG.edges
  obtain ⟨hab1, hab2⟩ := hab
  subst hN
  have AC := hid_of (fun w' => allR_calls (N : Int) ao n cap hn w')
  have CA := hid_of (fun w' (K' : Kept w3 w') qo qc (J : JRow w' qo n qc (allTo n)) => costR_calls (N : Int) N ao n cap es qo n qc (allTo n) w' (HE.out.kept ((KWH.out.trans K.out).trans K')) J RGH.out (fun j hj => by rw [allTo_at hj]; omega) hn)
  obtain ⟨S0, hS0⟩ : ∃ S, csum es (allTo n) n = S := ⟨_, rfl⟩
  rw [hS0] at hv1 hab1 hab2 CA
  have hv1H := hid_of hv1
  clear hle RG GOOD V1 HA1 h1 hS0 hv1
  have G0 := hid_of g0
  have G1 := hid_of g1
  have C4 := hid_of c4
  go_wp2_with fail
  refine Ord.region [(0, 1), (1, 1), (2, 2), (3, 2), (4, 0)] (fun w' => Kept w3 w') (by kernel_rfl) (by kernel_rfl) (by kernel_rfl) (by kernel_rfl) (fun _ _ d _ _ h => by cases d <;> exact h) ((Kept.refl _).drewN _) ?_
  repeat
    refine Ord.step rfl (fun Ko hK => ?_)
    simp only [Ord.body]
    go_simp
    first
      | (refine hK _ _ ?_; clear hK Ko)
      | (refine ⟨_, fun w' hS => (by have c0 := hS.cell g0; have c1 := hS.cell g1; simp only [c0, c1, Result.andThen]; rfl), hK _ _ ?_⟩; clear hK Ko)
      | (go_at_call 39; refine (AC.out _).mono ?_; clear AC; rintro e wm ⟨qo, qc, rfl, JA, KM⟩; refine ⟨((Kept.refl _).drewN _).trans KM, hK _ _ ?_⟩; clear hK Ko)
      | (go_at_call 37; refine (CA.out _ (((Kept.refl _).drewN _).trans KM) _ _ JA).mono ?_; clear CA; rintro e wn ⟨rfl, KN⟩; refine ⟨(((Kept.refl _).drewN _).trans KM).trans KN, hK _ _ ?_⟩; clear hK Ko)
  refine Ord.done ?_
  have K3 := hid_of ((((Kept.refl w3).drewN 1).trans KM).trans KN)
  have KF := hid_of ((KWH.out.trans K.out).trans K3.out)
  replace g0 := K3.out.cell G0.out
  replace g1 := K3.out.cell G1.out
  replace c4 := K3.out.cell C4.out
  clear KM KN JA G0 G1 C4
  have EC := hid_of (fun w' (K' : Kept wn w') => evensR_calls N ao n cap es oo lo oc o w' (HE.out.kept (KF.out.trans K')) (HO.out.kept (KF.out.trans K')) RGH.out)
  go_wp2_with fail
  refine (EC.out wn (Kept.refl _)).mono ?_
  rintro e w5 ⟨K5, ⟨hev, rfl⟩ | ⟨hev, rfl⟩⟩
  rotate_left
  · have KE := hid_of (KF.out.trans K5)
    clear K5 EC g0 g1 c4 hev HLE
    go_wp2
    go_ret
    exact ⟨rfl, KE.out⟩
  have KE := hid_of (KF.out.trans K5)
  replace g0 := K5.cell g0
  replace g1 := K5.cell g1
  replace c4 := K5.cell c4
  have L1 := HLE.out hev
  have RIS := hid_of hev.1
  have lob : lo ≤ 4096 := by have := hev.1.len_le; omega
  have CO := hid_of (costR_calls (N : Int) N ao n cap es oo lo oc o w5 (HE.out.kept KE.out) (HO.out.kept KE.out) RGH.out (fun j hj => RIS.out.rng hj) lob)
  obtain ⟨b1, b2⟩ := csum_bd RGH.out (fun j hj => RIS.out.rng hj) lo (Nat.le_refl _)
  obtain ⟨S, hS⟩ : ∃ S, csum es o lo = S := ⟨_, rfl⟩
  rw [hS] at CO L1 b1 b2
  have WR : IntKind.i64.wrap (S0 + S) = S0 + S := wrap_id (by omega) (by omega)
  have q4 : decide (v1 ≤ S0 + S) = true := decide_eq_true (by have := hv1H.out; omega)
  clear hev EC HLE hS L1 b1 b2 hab1 hab2 hv1H K5
  go_wp2_with fail
  refine CO.out.mono ?_
  rintro e w6 ⟨rfl, K6⟩
  have KE2 := hid_of (KE.out.trans K6)
  clear K6 CO g0 g1 c4
  go_wp2
  go_ret
  exact ⟨rfl, KE2.out⟩
end Go.Proofs.YtpdppjngbbkbbaaDoor
