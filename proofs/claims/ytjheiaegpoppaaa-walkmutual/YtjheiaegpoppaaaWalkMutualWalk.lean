/- WalkMutual: the walk of the law. -/
import Derived.Test.YtjheiaegpoppaaaPaN
import Derived.Test.YtjheiaegpoppaaaWkJ
namespace Go.Proofs.Ytjheiaegpoppaaa
open Go.RowKit

theorem JRow.nilM (w : World) : JRow w none 0 0 [] := ⟨rfl, Nat.le_refl _, by unfold maxLen; omega, fun h => by omega⟩

set_option maxRecDepth 100000 in
set_option maxHeartbeats 4000000 in
theorem walkMutualBad (nodes : Int) (ao : Option Addr) (m cap : Nat) (es : List Ed) (w : World) (h : ERow w ao m cap es) (hm : m * 32 ≤ 140737488355328) (c a : Int) (hf : Hid (faultOf nodes es = (c, a))) (hb : c ≠ 0) (u v : Int) :
    Calls Try.prog 8 #[.agg #[.int .i64 nodes, .slice ao m cap], .int .i64 u, .int .i64 v] w fun v w' => v = .returned (.bool true) ∧ Kept w w' := by
  have hnot : ∀ (x : Bool) (w : World), (Op.unary .not (.bool x)).run Try.prog w = .ok (.bool (!x)) w := fun _ _ => rfl
  have KG : Kept w (w.alloc (Obj.cells #[.int .i64 nodes, .slice ao m cap] 24)) := (Kept.refl w).alloc _
  have g0 : (w.alloc (Obj.cells #[.int .i64 nodes, .slice ao m cap] 24)).cell? ⟨w.heap.size, 0, none⟩ = some (.int .i64 nodes) := by simp [go_sem]
  have g1 : (w.alloc (Obj.cells #[.int .i64 nodes, .slice ao m cap] 24)).cell? ⟨w.heap.size, 1, none⟩ = some (.slice ao m cap) := by simp [go_sem]
  have HE := hid_of (h.kept KG)
  have HB := hid_of hb
  have HM := hid_of hm
  have qe : (c != c) = false := by simp
  have q0 : (c != 0) = true := by simpa using hb
  have q1 : (c == 0) = false := by simpa using hb
  have HC : Hid (c = if c = 0 then 30 else c) := by show c = _; rw [if_neg hb]
  clear h hb hm
  go_enter Try.func8, Try.ntmps8
  go_wp2_with fail
  generalize hW0 : w.alloc (Obj.cells #[.int .i64 nodes, .slice ao m cap] 24) = W0 at KG g0 g1 HE ⊢
  clear hW0
  refine (awake_calls W0).mono ?_
  rintro r wa ⟨rfl, K1⟩
  replace g0 := K1.cell g0
  replace g1 := K1.cell g1
  have HE1 := hid_of (HE.out.kept K1)
  have KA := hid_of (KG.trans K1)
  clear K1 KG HE
  go_wp2_with fail
  refine (strongBad_calls nodes ao m cap es wa HE1.out c a hf HB.out).mono ?_
  rintro r w2 ⟨rfl, K2⟩
  replace g0 := K2.cell g0
  replace g1 := K2.cell g1
  have HE2 := hid_of (HE1.out.kept K2)
  have KB := hid_of (KA.out.trans K2)
  clear K2 KA HE1
  go_wp2_with fail
  refine (partsBad_calls nodes ao m cap es w2 HE2.out c a hf HB.out).mono ?_
  rintro r w3 ⟨rfl, K3⟩
  replace g0 := K3.cell g0
  replace g1 := K3.cell g1
  have HE3 := hid_of (HE2.out.kept K3)
  have KC := hid_of (KB.out.trans K3)
  clear K3 KB HE2
  go_wp2_with fail
  refine (revR_calls nodes ao m cap es w3 HE3.out HM.out).mono ?_
  rintro r w4 ⟨ao', cap', rfl, O4, K4⟩
  replace g0 := K4.cell g0
  replace g1 := K4.cell g1
  have HE4 := hid_of (HE3.out.kept K4)
  have HT4 := hid_of (ERow.of_owns O4)
  have KD := hid_of (KC.out.trans K4)
  have hft : Hid (faultOf nodes (es.map turn) = (c, a)) := by show _ = _; rw [fault_turn]; exact hf.out
  clear K4 KC HE3 O4
  go_wp2_with fail
  refine (strongBad_calls nodes ao' m cap' (es.map turn) w4 HT4.out c a hft HB.out).mono ?_
  rintro r w5 ⟨rfl, K5⟩
  replace g0 := K5.cell g0
  replace g1 := K5.cell g1
  have HE5 := hid_of (HE4.out.kept K5)
  have KE := hid_of (KD.out.trans K5)
  clear K5 KD HE4 HT4
  go_wp2_with fail
  refine (levelsBad_calls nodes ao m cap es w5 HE5.out c a hf u (.inl HB.out) c HC).mono ?_
  rintro r w6 ⟨rfl, K6⟩
  replace g0 := K6.cell g0
  replace g1 := K6.cell g1
  have HE6 := hid_of (HE5.out.kept K6)
  have KF := hid_of (KE.out.trans K6)
  clear K6 KE HE5
  go_wp2_with fail
  refine (levelsBad_calls nodes ao m cap es w6 HE6.out c a hf v (.inl HB.out) c HC).mono ?_
  rintro r w7 ⟨rfl, K7⟩
  have KH := hid_of (KF.out.trans K7)
  clear K7 KF HE6
  go_wp2_with fail
  refine (ints_calls none none 0 0 0 [] w7 (JRow.nilM w7) (JRow.nilM w7)).mono ?_
  rintro r w8 ⟨rfl, K8⟩
  have KI := hid_of (KH.out.trans K8)
  clear K8 KH
  go_wp2_with fail
  go_ret
  exact ⟨rfl, KI.out⟩

set_option maxRecDepth 100000 in
set_option maxHeartbeats 4000000 in
theorem walkMutualHalf (n : Nat) (hn : n ≤ 1024) (ao : Option Addr) (m cap : Nat) (es : List Ed) (w : World) (h : ERow w ao m cap es) (hnil : Hid (ao = none → m = 0 ∧ cap = 0)) (hf : Hid (faultOf (n : Int) es = (0, 0))) (hm4 : m ≤ 4096) (hrg : Hid (∀ e ∈ es, 0 ≤ e.f ∧ e.f < (n : Int) ∧ 0 ≤ e.t ∧ e.t < (n : Int))) (u v eu ev : Int)
    (LU : Hid (∀ w, ERow w ao m cap es → Calls Try.prog 23 #[.agg #[.int .i64 (n : Int), .slice ao m cap], .int .i64 u] w fun r w' => ∃ bo l k, r = .returned (.tuple #[.slice bo l k, .int .i64 eu]) ∧ Kept w w'))
    (LV : Hid (∀ w, ERow w ao m cap es → Calls Try.prog 23 #[.agg #[.int .i64 (n : Int), .slice ao m cap], .int .i64 v] w fun r w' => ∃ bo l k, r = .returned (.tuple #[.slice bo l k, .int .i64 ev]) ∧ Kept w w'))
    (hb : eu ≠ 0 ∨ (eu = 0 ∧ ev ≠ 0)) :
    Calls Try.prog 8 #[.agg #[.int .i64 (n : Int), .slice ao m cap], .int .i64 u, .int .i64 v] w fun v w' => v = .returned (.bool true) ∧ Kept w w' := by
  have hnot : ∀ (x : Bool) (w : World), (Op.unary .not (.bool x)).run Try.prog w = .ok (.bool (!x)) w := fun _ _ => rfl
  have KG : Kept w (w.alloc (Obj.cells #[.int .i64 (n : Int), .slice ao m cap] 24)) := (Kept.refl w).alloc _
  have g0 : (w.alloc (Obj.cells #[.int .i64 (n : Int), .slice ao m cap] 24)).cell? ⟨w.heap.size, 0, none⟩ = some (.int .i64 (n : Int)) := by simp [go_sem]
  have g1 : (w.alloc (Obj.cells #[.int .i64 (n : Int), .slice ao m cap] 24)).cell? ⟨w.heap.size, 1, none⟩ = some (.slice ao m cap) := by simp [go_sem]
  have HE := hid_of (h.kept KG)
  clear h
  go_enter Try.func8, Try.ntmps8
  go_wp2_with fail
  generalize hW0 : w.alloc (Obj.cells #[.int .i64 (n : Int), .slice ao m cap] 24) = W0 at KG g0 g1 HE ⊢
  clear hW0
  refine (awake_calls W0).mono ?_
  rintro r wa ⟨rfl, K1⟩
  replace g0 := K1.cell g0
  replace g1 := K1.cell g1
  have HE1 := hid_of (HE.out.kept K1)
  have KA := hid_of (KG.trans K1)
  clear K1 KG HE
  go_wp2_with fail
  refine (strong_calls n hn ao m cap es wa HE1.out hnil hf hm4 hrg).mono ?_
  rintro r w2 ⟨gs, cs, cts, rfl, IS, NS, -, K2⟩
  replace g0 := K2.cell g0
  replace g1 := K2.cell g1
  have HE2 := hid_of (HE1.out.kept K2)
  have KB := hid_of (KA.out.trans K2)
  have IS2 := hid_of IS
  have NSH := hid_of NS
  clear K2 KA HE1 IS NS
  go_wp2_with fail
  refine (parts_calls n hn ao m cap es w2 HE2.out hnil hf hm4 hrg).mono ?_
  rintro r w3 ⟨gp, cp, ctp, rfl, -, -, -, K3⟩
  replace g0 := K3.cell g0
  replace g1 := K3.cell g1
  have HE3 := hid_of (HE2.out.kept K3)
  have KC := hid_of (KB.out.trans K3)
  have IS3 := hid_of (IS2.out.kept K3)
  clear K3 KB HE2 IS2
  go_wp2_with fail
  refine (revR_calls (n : Int) ao m cap es w3 HE3.out (by omega)).mono ?_
  rintro r w4 ⟨ao', cap', rfl, O4, K4⟩
  replace g0 := K4.cell g0
  replace g1 := K4.cell g1
  have HE4 := hid_of (HE3.out.kept K4)
  have HT4 := hid_of (ERow.of_owns O4)
  have HNL := hid_of (owns_nilM O4)
  have KD := hid_of (KC.out.trans K4)
  have IS4 := hid_of (IS3.out.kept K4)
  have hft : Hid (faultOf (n : Int) (es.map turn) = (0, 0)) := by show _ = _; rw [fault_turn]; exact hf.out
  clear K4 KC HE3 O4 IS3
  go_wp2_with fail
  refine (strong_calls n hn ao' m cap' (es.map turn) w4 HT4.out HNL hft hm4 (turn_rg hrg.out)).mono ?_
  rintro r w5 ⟨gb, cb, ctb, rfl, IB, NB, -, K5⟩
  replace g0 := K5.cell g0
  replace g1 := K5.cell g1
  have HE5 := hid_of (HE4.out.kept K5)
  have KE := hid_of (KD.out.trans K5)
  have IS5 := hid_of (IS4.out.kept K5)
  have IB5 := hid_of IB
  have NBH := hid_of (NB.congr (fun u v _ _ => mut_turn hrg.out u v))
  clear K5 KD HE4 HT4 HNL IS4 IB NB
  go_wp2_with fail
  refine (LU.out w5 HE5.out).mono ?_
  rintro r w6 ⟨bo, l1, k1, rfl, K6⟩
  replace g0 := K6.cell g0
  replace g1 := K6.cell g1
  have HE6 := hid_of (HE5.out.kept K6)
  have KF := hid_of (KE.out.trans K6)
  have IS6 := hid_of (IS5.out.kept K6)
  have IB6 := hid_of (IB5.out.kept K6)
  clear K6 KE HE5 IS5 IB5 LU
  go_wp2_with fail
  refine (LV.out w6 HE6.out).mono ?_
  rintro r w7 ⟨bo2, l2, k2, rfl, K7⟩
  have KH := hid_of (KF.out.trans K7)
  have hmax : n ≤ maxLen := by unfold maxLen; omega
  have IC := hid_of (ints_calls (some ⟨gs, 0, none⟩) (some ⟨gb, 0, none⟩) n n n _ w7 (JRow.ofNum (IS6.out.kept K7) NSH.out NSH.out hmax) (JRow.ofNum (IB6.out.kept K7) NSH.out NBH.out hmax))
  clear K7 KF HE6 IS6 IB6 LV hmax NSH NBH
  go_wp2_with fail
  refine IC.out.mono ?_
  rintro r w8 ⟨rfl, K8⟩
  have KI := hid_of (KH.out.trans K8)
  clear K8 KH IC
  rcases hb with hb | ⟨rfl, hb⟩
  · have q0 : (eu != 0) = true := by simpa using hb
    go_wp2_with fail
    go_ret
    exact ⟨rfl, KI.out⟩
  · have q0 : (ev != 0) = true := by simpa using hb
    go_wp2_with fail
    go_ret
    exact ⟨rfl, KI.out⟩

set_option maxRecDepth 100000 in
set_option maxHeartbeats 4000000 in
theorem walkMutualGood (n : Nat) (hn : n ≤ 1024) (ao : Option Addr) (m cap : Nat) (es : List Ed) (w : World) (h : ERow w ao m cap es) (hnil : Hid (ao = none → m = 0 ∧ cap = 0)) (hf : Hid (faultOf (n : Int) es = (0, 0))) (hm4 : m ≤ 4096) (hrg : Hid (∀ e ∈ es, 0 ≤ e.f ∧ e.f < (n : Int) ∧ 0 ≤ e.t ∧ e.t < (n : Int))) (u v : Nat) (hu : u < n) (hv : v < n) :
    Calls Try.prog 8 #[.agg #[.int .i64 (n : Int), .slice ao m cap], .int .i64 (u : Int), .int .i64 (v : Int)] w fun v w' => v = .returned (.bool true) ∧ Kept w w' := by
  have hnot : ∀ (x : Bool) (w : World), (Op.unary .not (.bool x)).run Try.prog w = .ok (.bool (!x)) w := fun _ _ => rfl
  have KG : Kept w (w.alloc (Obj.cells #[.int .i64 (n : Int), .slice ao m cap] 24)) := (Kept.refl w).alloc _
  have g0 : (w.alloc (Obj.cells #[.int .i64 (n : Int), .slice ao m cap] 24)).cell? ⟨w.heap.size, 0, none⟩ = some (.int .i64 (n : Int)) := by simp [go_sem]
  have g1 : (w.alloc (Obj.cells #[.int .i64 (n : Int), .slice ao m cap] 24)).cell? ⟨w.heap.size, 1, none⟩ = some (.slice ao m cap) := by simp [go_sem]
  have HE := hid_of (h.kept KG)
  have HL := hid_of h.len
  clear h
  go_enter Try.func8, Try.ntmps8
  go_wp2_with fail
  generalize hW0 : w.alloc (Obj.cells #[.int .i64 (n : Int), .slice ao m cap] 24) = W0 at KG g0 g1 HE ⊢
  clear hW0
  refine (awake_calls W0).mono ?_
  rintro r wa ⟨rfl, K1⟩
  replace g0 := K1.cell g0
  replace g1 := K1.cell g1
  have HE1 := hid_of (HE.out.kept K1)
  have KA := hid_of (KG.trans K1)
  clear K1 KG HE
  go_wp2_with fail
  refine (strong_calls n hn ao m cap es wa HE1.out hnil hf hm4 hrg).mono ?_
  rintro r w2 ⟨gs, cs, cts, rfl, IS, NS, -, K2⟩
  replace g0 := K2.cell g0
  replace g1 := K2.cell g1
  have HE2 := hid_of (HE1.out.kept K2)
  have KB := hid_of (KA.out.trans K2)
  have IS2 := hid_of IS
  have NSH := hid_of NS
  clear K2 KA HE1 IS NS
  go_wp2_with fail
  refine (parts_calls n hn ao m cap es w2 HE2.out hnil hf hm4 hrg).mono ?_
  rintro r w3 ⟨gp, cp, ctp, rfl, IP, NP, -, K3⟩
  replace g0 := K3.cell g0
  replace g1 := K3.cell g1
  have HE3 := hid_of (HE2.out.kept K3)
  have KC := hid_of (KB.out.trans K3)
  have IS3 := hid_of (IS2.out.kept K3)
  have IP3 := hid_of IP
  have NPH := hid_of NP
  clear K3 KB HE2 IS2 IP NP
  go_wp2_with fail
  refine (revR_calls (n : Int) ao m cap es w3 HE3.out (by omega)).mono ?_
  rintro r w4 ⟨ao', cap', rfl, O4, K4⟩
  replace g0 := K4.cell g0
  replace g1 := K4.cell g1
  have HE4 := hid_of (HE3.out.kept K4)
  have HT4 := hid_of (ERow.of_owns O4)
  have HNL := hid_of (owns_nilM O4)
  have KD := hid_of (KC.out.trans K4)
  have IS4 := hid_of (IS3.out.kept K4)
  have IP4 := hid_of (IP3.out.kept K4)
  have hft : Hid (faultOf (n : Int) (es.map turn) = (0, 0)) := by show _ = _; rw [fault_turn]; exact hf.out
  clear K4 KC HE3 O4 IS3 IP3
  go_wp2_with fail
  refine (strong_calls n hn ao' m cap' (es.map turn) w4 HT4.out HNL hft hm4 (turn_rg hrg.out)).mono ?_
  rintro r w5 ⟨gb, cb, ctb, rfl, IB, NB, -, K5⟩
  replace g0 := K5.cell g0
  replace g1 := K5.cell g1
  have HE5 := hid_of (HE4.out.kept K5)
  have KE := hid_of (KD.out.trans K5)
  have IS5 := hid_of (IS4.out.kept K5)
  have IP5 := hid_of (IP4.out.kept K5)
  have IB5 := hid_of IB
  have NBH := hid_of (NB.congr (fun u v _ _ => mut_turn hrg.out u v))
  clear K5 KD HE4 HT4 HNL IS4 IP4 IB NB
  go_wp2_with fail
  refine (levels_calls n hn ao m cap es w5 HE5.out hf hm4 hrg u hu).mono ?_
  rintro r w6 ⟨ga, la, rfl, LA, IA, -, K6⟩
  replace g0 := K6.cell g0
  replace g1 := K6.cell g1
  have HE6 := hid_of (HE5.out.kept K6)
  have KF := hid_of (KE.out.trans K6)
  have IS6 := hid_of (IS5.out.kept K6)
  have IP6 := hid_of (IP5.out.kept K6)
  have IB6 := hid_of (IB5.out.kept K6)
  have IA6 := hid_of IA
  have LAH := hid_of (LA.levs HL.out hu hrg.out)
  clear K6 KE HE5 IS5 IP5 IB5 IA LA
  go_wp2_with fail
  refine (levels_calls n hn ao m cap es w6 HE6.out hf hm4 hrg v hv).mono ?_
  rintro r w7 ⟨gv, lb, rfl, LB, IV, -, K7⟩
  replace g0 := K7.cell g0
  have KH := hid_of (KF.out.trans K7)
  have IP7 := hid_of (IP6.out.kept K7)
  have IS7 := hid_of (IS6.out.kept K7)
  have IB7 := hid_of (IB6.out.kept K7)
  have IA7 := hid_of (IA6.out.kept K7)
  have IV7 := hid_of IV
  obtain ⟨M1, M2⟩ := mutual_of hrg.out hu hv NSH.out NPH.out LAH.out (LB.levs HL.out hv hrg.out)
  have M1H := hid_of M1
  have M2H := hid_of M2
  have hmax : n ≤ maxLen := by unfold maxLen; omega
  have IC := hid_of (ints_calls (some ⟨gs, 0, none⟩) (some ⟨gb, 0, none⟩) n n n _ w7 (JRow.ofNum IS7.out NSH.out NSH.out hmax) (JRow.ofNum IB7.out NSH.out NBH.out hmax))
  clear g1 K7 KF HE6 IS6 IB6 IA6 IP6 hmax NSH NBH NPH LAH LB IV M1 M2
  go_wp2_with fail
  refine IC.out.mono ?_
  rintro r w8 ⟨rfl, K8⟩
  have KI := hid_of (KH.out.trans K8)
  replace g0 := K8.cell g0
  have s1 := (IS7.out.kept K8).cell hu
  have s2 := (IS7.out.kept K8).cell hv
  have p1 := (IP7.out.kept K8).cell hu
  have p2 := (IP7.out.kept K8).cell hv
  have a1 := (IA7.out.kept K8).cell hv
  have b1 := (IV7.out.kept K8).cell hu
  clear K8 KH IC IS7 IP7 IA7 IV7 IB7
  have qn : ((n : Int) != (n : Int)) = false := by simp
  have hui : (u : Int) < (n : Int) := by omega
  have hvi : (v : Int) < (n : Int) := by omega
  obtain ⟨xs1, e1⟩ : ∃ x, cs u = x := ⟨_, rfl⟩
  obtain ⟨xs2, e2⟩ : ∃ x, cs v = x := ⟨_, rfl⟩
  obtain ⟨xp1, e3⟩ : ∃ x, cp u = x := ⟨_, rfl⟩
  obtain ⟨xp2, e4⟩ : ∃ x, cp v = x := ⟨_, rfl⟩
  obtain ⟨xa, e5⟩ : ∃ x, la v = x := ⟨_, rfl⟩
  obtain ⟨xb, e6⟩ : ∃ x, lb u = x := ⟨_, rfl⟩
  rw [e1] at s1 M1H
  rw [e2] at s2 M1H
  rw [e3] at p1 M2H
  rw [e4] at p2 M2H
  rw [e5] at a1 M1H M2H
  rw [e6] at b1 M1H
  clear e1 e2 e3 e4 e5 e6

  by_cases ha : 0 ≤ xa
  · obtain rfl := M2H.out ha
    have da : decide (xa < 0) = false := by simpa using ha
    by_cases hb : 0 ≤ xb
    · obtain rfl := M1H.out.2 ⟨ha, hb⟩
      go_wp2_with fail
      go_quiet (fail)
      have KZ := KI.out.drewN nq
      go_wp2
      go_ret
      exact ⟨rfl, KZ⟩
    · have hs : ¬ xs1 = xs2 := fun t => hb (M1H.out.1 t).2
      have db : decide (0 ≤ xb) = false := by simpa using hb
      have qs : (xs1 == xs2) = false := by simpa using hs
      go_wp2_with fail
      go_quiet (fail)
      have KZ := KI.out.drewN nq
      go_wp2
      go_ret
      exact ⟨rfl, KZ⟩
  · have hs : ¬ xs1 = xs2 := fun t => ha (M1H.out.1 t).1
    have qs : (xs1 == xs2) = false := by simpa using hs
    have da : decide (xa < 0) = true := by simpa using ha
    go_wp2_with fail
    go_quiet (fail)
    have KZ := KI.out.drewN nq
    go_wp2
    go_ret
    exact ⟨rfl, KZ⟩
end Go.Proofs.Ytjheiaegpoppaaa
