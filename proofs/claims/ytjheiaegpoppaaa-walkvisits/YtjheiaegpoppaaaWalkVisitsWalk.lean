/- WalkVisits: the walk of the law. -/
import Derived.Test.YtjheiaegpoppaaaViE
import Derived.Test.YtjheiaegpoppaaaWkU
namespace Go.Proofs.Ytjheiaegpoppaaa
open Go.RowKit

set_option maxRecDepth 100000 in
set_option maxHeartbeats 4000000 in
theorem walkVisitsBad (nodes : Int) (ao : Option Addr) (m cap : Nat) (es : List Ed) (w : World) (h : ERow w ao m cap es) (c a : Int) (hf : Hid (faultOf nodes es = (c, a))) (hb : c ≠ 0) :
    Calls Try.prog 3 #[.agg #[.int .i64 nodes, .slice ao m cap]] w fun v w' => v = .returned (.bool true) ∧ Kept w w' := by
  have hnot : ∀ (x : Bool) (w : World), (Op.unary .not (.bool x)).run Try.prog w = .ok (.bool (!x)) w := fun _ _ => rfl
  have KG : Kept w (w.alloc (Obj.cells #[.int .i64 nodes, .slice ao m cap] 24)) := (Kept.refl w).alloc _
  have g0 : (w.alloc (Obj.cells #[.int .i64 nodes, .slice ao m cap] 24)).cell? ⟨w.heap.size, 0, none⟩ = some (.int .i64 nodes) := by simp [go_sem]
  have g1 : (w.alloc (Obj.cells #[.int .i64 nodes, .slice ao m cap] 24)).cell? ⟨w.heap.size, 1, none⟩ = some (.slice ao m cap) := by simp [go_sem]
  have HE := hid_of (h.kept KG)
  have HB := hid_of hb
  clear h hb
  go_enter Try.func3, Try.ntmps3
  go_wp2_with fail
  generalize hW0 : w.alloc (Obj.cells #[.int .i64 nodes, .slice ao m cap] 24) = W0 at KG g0 g1 HE ⊢
  clear hW0
  refine (awake_calls W0).mono ?_
  rintro v wa ⟨rfl, K1⟩
  replace g0 := K1.cell g0
  replace g1 := K1.cell g1
  have HE1 := hid_of (HE.out.kept K1)
  have KA := hid_of (KG.trans K1)
  clear K1 KG HE
  go_wp2_with fail
  refine (visitBad_calls nodes ao m cap es wa HE1.out c a hf HB.out).mono ?_
  rintro v wb ⟨rfl, K2⟩
  replace g0 := K2.cell g0
  replace g1 := K2.cell g1
  have HE2 := hid_of (HE1.out.kept K2)
  have KB := hid_of (KA.out.trans K2)
  clear K2 KA HE1
  go_wp2_with fail
  refine (visitRRBad_calls nodes ao m cap es wb HE2.out c a hf HB.out).mono ?_
  rintro v wc ⟨rfl, K3⟩
  have KC := hid_of (KB.out.trans K3)
  clear K3 KB HE2
  go_wp2_with fail
  refine (ints_calls none none 0 0 0 [] wc (JRow.nil wc) (JRow.nil wc)).mono ?_
  rintro v wd ⟨rfl, K4⟩
  have KD := hid_of (KC.out.trans K4)
  clear K4 KC
  go_wp2_with fail
  refine (ints_calls none none 0 0 0 [] wd (JRow.nil wd) (JRow.nil wd)).mono ?_
  rintro v we ⟨rfl, K5⟩
  have KE := hid_of (KD.out.trans K5)
  have qe : (c == c) = true := by simp
  clear K5 KD
  go_wp2_with fail
  go_ret
  exact ⟨rfl, KE.out⟩

set_option maxRecDepth 100000 in
set_option maxHeartbeats 4000000 in
theorem walkVisitsGood (n : Nat) (hn : n ≤ 1024) (ao : Option Addr) (m cap : Nat) (es : List Ed) (w : World) (h : ERow w ao m cap es) (hf : Hid (faultOf (n : Int) es = (0, 0))) (hm4 : m ≤ 4096) (hrg : Hid (∀ e ∈ es, 0 ≤ e.f ∧ e.f < (n : Int) ∧ 0 ≤ e.t ∧ e.t < (n : Int))) :
    Calls Try.prog 3 #[.agg #[.int .i64 (n : Int), .slice ao m cap]] w fun v w' => v = .returned (.bool true) ∧ Kept w w' := by
  have hnot : ∀ (x : Bool) (w : World), (Op.unary .not (.bool x)).run Try.prog w = .ok (.bool (!x)) w := fun _ _ => rfl
  have KG : Kept w (w.alloc (Obj.cells #[.int .i64 (n : Int), .slice ao m cap] 24)) := (Kept.refl w).alloc _
  have g0 : (w.alloc (Obj.cells #[.int .i64 (n : Int), .slice ao m cap] 24)).cell? ⟨w.heap.size, 0, none⟩ = some (.int .i64 (n : Int)) := by simp [go_sem]
  have g1 : (w.alloc (Obj.cells #[.int .i64 (n : Int), .slice ao m cap] 24)).cell? ⟨w.heap.size, 1, none⟩ = some (.slice ao m cap) := by simp [go_sem]
  have HE := hid_of (h.kept KG)
  clear h
  go_enter Try.func3, Try.ntmps3
  go_wp2_with fail
  generalize hW0 : w.alloc (Obj.cells #[.int .i64 (n : Int), .slice ao m cap] 24) = W0 at KG g0 g1 HE ⊢
  clear hW0
  refine (awake_calls W0).mono ?_
  rintro v wa ⟨rfl, K1⟩
  replace g0 := K1.cell g0
  replace g1 := K1.cell g1
  have HE1 := hid_of (HE.out.kept K1)
  have KA := hid_of (KG.trans K1)
  clear K1 KG HE
  go_wp2_with fail
  refine (visit_calls n hn ao m cap es wa HE1.out hf hm4 hrg).mono ?_
  rintro v wb ⟨gp, gq, rfl, P2, Q2, -, -, -, K2⟩
  replace g0 := K2.cell g0
  replace g1 := K2.cell g1
  have HE2 := hid_of (HE1.out.kept K2)
  have KB := hid_of (KA.out.trans K2)
  have PH := hid_of P2
  have QH := hid_of Q2
  clear P2 Q2 K2 HE1 KA
  go_wp2_with fail
  refine (visitRR_calls n hn ao m cap es wb HE2.out hf hrg).mono ?_
  rintro v wc ⟨gp', gq', rfl, P3, Q3, K3⟩
  have hmax : n ≤ maxLen := by unfold maxLen; omega
  have J1 := JRow.ofInts (PH.out.kept K3) hmax
  have J2 := JRow.ofInts (QH.out.kept K3) hmax
  have J3 := JRow.ofInts P3 hmax
  have J4 := JRow.ofInts Q3 hmax
  have I1 := hid_of (ints_calls (some ⟨gp, 0, none⟩) (some ⟨gp', 0, none⟩) n n n _ wc J1 J3)
  have H2 := hid_of J2
  have H4 := hid_of J4
  have KC := hid_of (KB.out.trans K3)
  clear K3 KB HE2 P3 Q3 PH QH J1 J2 J3 J4 hmax
  go_wp2_with fail
  refine I1.out.mono ?_
  rintro v wd ⟨rfl, K4⟩
  have I2 := hid_of (ints_calls (some ⟨gq, 0, none⟩) (some ⟨gq', 0, none⟩) n n n _ wd (H2.out.kept K4) (H4.out.kept K4))
  have KD := hid_of (KC.out.trans K4)
  clear K4 KC H2 H4 I1
  go_wp2_with fail
  refine I2.out.mono ?_
  rintro v we ⟨rfl, K5⟩
  have KE := hid_of (KD.out.trans K5)
  clear K5 KD I2
  go_wp2_with fail
  go_ret
  exact ⟨rfl, KE.out⟩
end Go.Proofs.Ytjheiaegpoppaaa
