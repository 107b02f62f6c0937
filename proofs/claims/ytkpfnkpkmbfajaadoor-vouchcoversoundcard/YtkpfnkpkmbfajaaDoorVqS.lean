/- VouchCoverSound: the walk of the law. -/
import Derived.Test.YtkpfnkpkmbfajaaDoorVmA
namespace Go.Proofs.YtkpfnkpkmbfajaaDoor
open Go.RowKit

set_option maxRecDepth 100000 in
set_option linter.unusedSimpArgs false in
set_option maxHeartbeats 4000000 in
theorem vouchCoverSoundWalk (nodes : Int) (ao : Option Addr) (n cap : Nat) (es : List Ed) (mo : Option Addr) (lm mc : Nat) (m : List Int) (xo : Option Addr) (lx xc : Nat) (x : List Int) (po : Option Addr) (lp' pc : Nat) (p : List Int) (oo : Option Addr) (lo oc : Nat) (o : List Int) (w : World) (h : ERow w ao n cap es) (hJ : JRow w mo lm mc m) (hX : JRow w xo lx xc x) (hP : JRow w po lp' pc p) (hO : JRow w oo lo oc o) :
    Calls Tryd.prog 8 #[.agg #[.int .i64 nodes, .slice ao n cap], .agg #[.slice mo lm mc, .slice xo lx xc, .slice po lp' pc], .slice oo lo oc] w fun e w' => e = .returned (.bool true) ∧ Below w.heap.size w w' := by
  have hnot : ∀ (x : Bool) (w : World), (Op.unary .not (.bool x)).run Tryd.prog w = .ok (.bool (!x)) w := fun _ _ => rfl
  have KW : Kept w ((w.alloc (Obj.cells #[.int .i64 nodes, .slice ao n cap] 24)).alloc (Obj.cells #[.slice mo lm mc, .slice xo lx xc, .slice po lp' pc] 28)) := ((Kept.refl w).alloc _).alloc _
  have g0 : ((w.alloc (Obj.cells #[.int .i64 nodes, .slice ao n cap] 24)).alloc (Obj.cells #[.slice mo lm mc, .slice xo lx xc, .slice po lp' pc] 28)).cell? ⟨w.heap.size, 0, none⟩ = some (.int .i64 nodes) := by simp [go_sem]
  have g1 : ((w.alloc (Obj.cells #[.int .i64 nodes, .slice ao n cap] 24)).alloc (Obj.cells #[.slice mo lm mc, .slice xo lx xc, .slice po lp' pc] 28)).cell? ⟨w.heap.size, 1, none⟩ = some (.slice ao n cap) := by simp [go_sem]
  have c0 : ((w.alloc (Obj.cells #[.int .i64 nodes, .slice ao n cap] 24)).alloc (Obj.cells #[.slice mo lm mc, .slice xo lx xc, .slice po lp' pc] 28)).cell? ⟨w.heap.size + 1, 0, none⟩ = some (.slice mo lm mc) := by simp [go_sem]
  have c1 : ((w.alloc (Obj.cells #[.int .i64 nodes, .slice ao n cap] 24)).alloc (Obj.cells #[.slice mo lm mc, .slice xo lx xc, .slice po lp' pc] 28)).cell? ⟨w.heap.size + 1, 1, none⟩ = some (.slice xo lx xc) := by simp [go_sem]
  have c2 : ((w.alloc (Obj.cells #[.int .i64 nodes, .slice ao n cap] 24)).alloc (Obj.cells #[.slice mo lm mc, .slice xo lx xc, .slice po lp' pc] 28)).cell? ⟨w.heap.size + 1, 2, none⟩ = some (.slice po lp' pc) := by simp [go_sem]
  obtain ⟨v1, e1, A1⟩ : ∃ v c, covAns nodes es n m lm x lx = (v, c) := ⟨_, _, rfl⟩
  obtain ⟨v2, e2, A2⟩ : ∃ v c, hvyAns nodes es n m lm p lp' = (v, c) := ⟨_, _, rfl⟩
  obtain ⟨z, A3⟩ : ∃ z, matAns nodes es n o lo = z := ⟨_, rfl⟩
  have hro := hO.room
  have hmo := hO.most
  unfold maxLen at hmo
  have HE := hid_of h
  have HJ := hid_of hJ
  have HX := hid_of hX
  have HP := hid_of hP
  have HO := hid_of hO
  have HA1 := hid_of A1
  have HA2 := hid_of A2
  have HA3 := hid_of A3
  clear h hJ hX hP hO A1 A2 A3
  have V1 : Hid (e1 ≠ 0 → v1 = 0) := fun t => covAns_no HA1.out t
  have V2 : Hid (e2 ≠ 0 → v2 = 0) := fun t => hvyAns_no HA2.out t
  have GOOD : Hid (z = 0 → ∃ N : Nat, nodes = (N : Int) ∧ Right N n es ∧ MatchOk es n o lo ∧ (e1 = 0 → (lo : Int) ≤ v1) ∧ (e2 = 0 → csum es o lo ≤ v2)) := fun hz => by
    rw [hz] at HA3
    obtain ⟨hf, ok⟩ := matAns_ok HA3.out
    obtain ⟨N, rfl, RG⟩ := right_of (fault_zero hf)
    rw [← HE.out.len] at RG
    refine ⟨N, rfl, RG, ok, fun t => ?_, fun t => ?_⟩
    · subst t
      obtain ⟨rfl, cv⟩ := covAns_ok HA1.out
      rw [Int.toNat_natCast] at cv
      have := cover_le RG cv.2.1 cv.2.2.2 ok
      rw [cv.2.2.1] at this
      exact this
    · subst t
      obtain ⟨rfl, hv⟩ := hvyAns_ok HA2.out
      rw [Int.toNat_natCast] at hv
      rw [← hv.2.2.2.2]
      exact pots_le RG hv.2.2.1 hv.2.2.2.1 ok
  go_enter Tryd.func8, Tryd.ntmps8
  go_wp2_with fail
  generalize (w.alloc (Obj.cells #[.int .i64 nodes, .slice ao n cap] 24)).alloc (Obj.cells #[.slice mo lm mc, .slice xo lx xc, .slice po lp' pc] 28) = W1 at KW g0 g1 c0 c1 c2 ⊢
  have KWH := hid_of KW
  have G0 := hid_of g0
  have G1 := hid_of g1
  refine (awake_calls W1).mono ?_
  rintro v w2 ⟨rfl, K2⟩
  have K := hid_of K2
  replace g0 := K2.cell g0
  replace g1 := K2.cell g1
  replace c0 := K2.cell c0
  replace c1 := K2.cell c1
  replace c2 := K2.cell c2
  clear K2 KW
  go_wp2_with fail
  refine (covered_calls nodes ao n cap es mo lm mc m xo lx xc x w2 (HE.out.kept (KWH.out.trans K.out)) (HJ.out.kept (KWH.out.trans K.out)) (HX.out.kept (KWH.out.trans K.out)) v1 e1 HA1).mono ?_
  rintro v w3 ⟨rfl, K2⟩
  replace K := hid_of (K.out.trans K2)
  replace g0 := K2.cell g0
  replace g1 := K2.cell g1
  replace c0 := K2.cell c0
  replace c2 := K2.cell c2
  clear K2 c1
  go_wp2_with fail
  refine (heavy_calls nodes ao n cap es mo lm mc m po lp' pc p w3 (HE.out.kept (KWH.out.trans K.out)) (HJ.out.kept (KWH.out.trans K.out)) (HP.out.kept (KWH.out.trans K.out)) v2 e2 HA2).mono ?_
  rintro v w4 ⟨rfl, K2⟩
  replace K := hid_of (K.out.trans K2)
  replace g0 := K2.cell g0
  replace g1 := K2.cell g1
  clear K2 c0 c2
  go_wp2_with fail
  refine (matchingR_calls nodes ao n cap es oo lo oc o w4 (HE.out.kept (KWH.out.trans K.out)) (HO.out.kept (KWH.out.trans K.out)) z HA3).mono ?_
  rintro v w5 ⟨rfl, K2⟩
  replace K := hid_of (K.out.trans K2)
  replace g0 := K2.cell g0
  replace g1 := K2.cell g1
  clear K2
  by_cases hz : z = 0
  rotate_left
  · have qz : (z != 0) = true := by simpa using hz
    clear hz g0 g1 GOOD
    by_cases h1 : e1 = 0
    · have q1 : (e1 == 0) = true := by simpa using h1
      clear h1
      by_cases h2 : e2 = 0
      · have q2 : (e2 == 0) = true := by simpa using h2
        clear h2
        go_wp2
        go_ret
        exact ⟨rfl, KWH.out.trans K.out⟩
      · have q2 : (e2 == 0) = false := by simpa using h2
        have z2 := V2.out h2
        have q4 : (v2 == 0) = true := by simpa using z2
        clear h2 z2
        go_wp2
        go_ret
        exact ⟨rfl, KWH.out.trans K.out⟩
    · have q1 : (e1 == 0) = false := by simpa using h1
      have z1 := V1.out h1
      have q3 : (v1 == 0) = true := by simpa using z1
      clear h1 z1
      by_cases h2 : e2 = 0
      · have q2 : (e2 == 0) = true := by simpa using h2
        clear h2
        go_wp2
        go_ret
        exact ⟨rfl, KWH.out.trans K.out⟩
      · have q2 : (e2 == 0) = false := by simpa using h2
        have z2 := V2.out h2
        have q4 : (v2 == 0) = true := by simpa using z2
        clear h2 z2
        go_wp2
        go_ret
        exact ⟨rfl, KWH.out.trans K.out⟩
  · obtain ⟨N, hN, RG, ok, L1, L2⟩ := GOOD.out hz
    have qz : (z != 0) = false := by simpa using hz
    have lob : lo ≤ 4096 := by have := ok.1.len_le; have := RG.edges; omega
    have OK := hid_of ok
    have CO := hid_of (costR_calls nodes N ao n cap es oo lo oc o w5 (HE.out.kept (KWH.out.trans K.out)) (HO.out.kept (KWH.out.trans K.out)) RG (fun j hj => OK.out.1.rng hj) lob)
    obtain ⟨S, hS⟩ : ∃ S, csum es o lo = S := ⟨_, rfl⟩
    rw [hS] at CO L2
    have L1H := hid_of L1
    have L2H := hid_of L2
    clear hz hN RG ok hS L1 L2 GOOD
    by_cases h1 : e1 = 0
    · have q1 : (e1 != 0) = false := by simpa using h1
      have q3 : decide ((lo : Int) ≤ v1) = true := decide_eq_true (L1H.out h1)
      clear h1
      by_cases h2 : e2 = 0
      · have q2 : (e2 != 0) = false := by simpa using h2
        have q4 : decide (S ≤ v2) = true := decide_eq_true (L2H.out h2)
        clear h2
        go_wp2_with fail
        refine CO.out.mono ?_
        rintro v w6 ⟨rfl, K6⟩
        replace K := hid_of (K.out.trans K6)
        clear K6 CO g0 g1
        go_wp2
        go_ret
        exact ⟨rfl, KWH.out.trans K.out⟩
      · have q2 : (e2 != 0) = true := by simpa using h2
        clear h2
        go_wp2
        go_ret
        exact ⟨rfl, KWH.out.trans K.out⟩
    · have q1 : (e1 != 0) = true := by simpa using h1
      clear h1
      by_cases h2 : e2 = 0
      · have q2 : (e2 != 0) = false := by simpa using h2
        have q4 : decide (S ≤ v2) = true := decide_eq_true (L2H.out h2)
        clear h2
        go_wp2_with fail
        refine CO.out.mono ?_
        rintro v w6 ⟨rfl, K6⟩
        replace K := hid_of (K.out.trans K6)
        clear K6 CO g0 g1
        go_wp2
        go_ret
        exact ⟨rfl, KWH.out.trans K.out⟩
      · have q2 : (e2 != 0) = true := by simpa using h2
        clear h2
        go_wp2
        go_ret
        exact ⟨rfl, KWH.out.trans K.out⟩
end Go.Proofs.YtkpfnkpkmbfajaaDoor
