/- WalkOrders: the walk of the law. -/
import Derived.Test.YtjheiaegpoppaaaWkU
namespace Go.Proofs.Ytjheiaegpoppaaa
open Go.RowKit

set_option maxRecDepth 100000 in
set_option maxHeartbeats 4000000 in
theorem walkOrdersBad (nodes : Int) (ao : Option Addr) (m cap : Nat) (es : List Ed) (w : World) (h : ERow w ao m cap es) (c a : Int) (hf : Hid (faultOf nodes es = (c, a))) (hb : c ≠ 0) :
    Calls Try.prog 4 #[.agg #[.int .i64 nodes, .slice ao m cap]] w fun v w' => v = .returned (.bool true) ∧ Kept w w' := by
  have hnot : ∀ (x : Bool) (w : World), (Op.unary .not (.bool x)).run Try.prog w = .ok (.bool (!x)) w := fun _ _ => rfl
  have KG : Kept w (w.alloc (Obj.cells #[.int .i64 nodes, .slice ao m cap] 24)) := (Kept.refl w).alloc _
  have g0 : (w.alloc (Obj.cells #[.int .i64 nodes, .slice ao m cap] 24)).cell? ⟨w.heap.size, 0, none⟩ = some (.int .i64 nodes) := by simp [go_sem]
  have g1 : (w.alloc (Obj.cells #[.int .i64 nodes, .slice ao m cap] 24)).cell? ⟨w.heap.size, 1, none⟩ = some (.slice ao m cap) := by simp [go_sem]
  have HE := hid_of (h.kept KG)
  have HB := hid_of hb
  have q71 : (c == 71) = false := by have := fault_small hf.out; rw [beq_eq_false_iff_ne]; omega
  clear h hb
  go_enter Try.func4, Try.ntmps4
  go_wp2_with fail
  generalize hW0 : w.alloc (Obj.cells #[.int .i64 nodes, .slice ao m cap] 24) = W0 at KG g0 g1 HE ⊢
  clear hW0
  refine (awake_calls W0).mono ?_
  rintro v wa ⟨rfl, K1⟩
  replace g0 := K1.cell g0
  replace g1 := K1.cell g1
  have HE1 := hid_of (HE.out.kept K1)
  have KA := hid_of (KG.trans K1)
  clear K1 KG HE
  go_wp2_with fail
  refine (orderBad_calls nodes ao m cap es wa HE1.out c a hf HB.out).mono ?_
  rintro v wb ⟨rfl, K2⟩
  replace g0 := K2.cell g0
  replace g1 := K2.cell g1
  have HE2 := hid_of (HE1.out.kept K2)
  have KB := hid_of (KA.out.trans K2)
  clear K2 KA HE1
  go_wp2_with fail
  refine (orderRBad_calls nodes ao m cap es wb HE2.out c a hf HB.out).mono ?_
  rintro v wc ⟨rfl, K3⟩
  have KC := hid_of (KB.out.trans K3)
  clear K3 KB HE2
  go_wp2_with fail
  refine (ints_calls none none 0 0 0 [] wc (JRow.nil wc) (JRow.nil wc)).mono ?_
  rintro v wd ⟨rfl, K4⟩
  have KD := hid_of (KC.out.trans K4)
  have qe : (c != c) = false := by simp
  clear K4 KC
  go_wp2_with fail
  go_ret
  exact ⟨rfl, KD.out⟩

set_option maxRecDepth 100000 in
set_option maxHeartbeats 4000000 in
theorem walkOrdersGood (n : Nat) (hn : n ≤ 1024) (ao : Option Addr) (m cap : Nat) (es : List Ed) (w : World) (h : ERow w ao m cap es) (hf : Hid (faultOf (n : Int) es = (0, 0))) (hm4 : m ≤ 4096) (hrg : Hid (∀ e ∈ es, 0 ≤ e.f ∧ e.f < (n : Int) ∧ 0 ≤ e.t ∧ e.t < (n : Int))) (hsucc : Hid (∀ k, k < n → ∃ v, nextV es n (ordl es n k) = some v)) (hlen : Hid (∀ k, k ≤ n → (ordl es n k).length = k)) :
    Calls Try.prog 4 #[.agg #[.int .i64 (n : Int), .slice ao m cap]] w fun v w' => v = .returned (.bool true) ∧ Kept w w' := by
  have hnot : ∀ (x : Bool) (w : World), (Op.unary .not (.bool x)).run Try.prog w = .ok (.bool (!x)) w := fun _ _ => rfl
  have KG : Kept w (w.alloc (Obj.cells #[.int .i64 (n : Int), .slice ao m cap] 24)) := (Kept.refl w).alloc _
  have g0 : (w.alloc (Obj.cells #[.int .i64 (n : Int), .slice ao m cap] 24)).cell? ⟨w.heap.size, 0, none⟩ = some (.int .i64 (n : Int)) := by simp [go_sem]
  have g1 : (w.alloc (Obj.cells #[.int .i64 (n : Int), .slice ao m cap] 24)).cell? ⟨w.heap.size, 1, none⟩ = some (.slice ao m cap) := by simp [go_sem]
  have HE := hid_of (h.kept KG)
  clear h
  go_enter Try.func4, Try.ntmps4
  go_wp2_with fail
  generalize hW0 : w.alloc (Obj.cells #[.int .i64 (n : Int), .slice ao m cap] 24) = W0 at KG g0 g1 HE ⊢
  clear hW0
  refine (awake_calls W0).mono ?_
  rintro v wa ⟨rfl, K1⟩
  replace g0 := K1.cell g0
  replace g1 := K1.cell g1
  have HE1 := hid_of (HE.out.kept K1)
  have KA := hid_of (KG.trans K1)
  clear K1 KG HE
  go_wp2_with fail
  refine (order_calls n hn ao m cap es wa HE1.out hf hm4 hrg hsucc).mono ?_
  rintro v wb ⟨so, sc, rfl, O2, K2⟩
  replace g0 := K2.cell g0
  replace g1 := K2.cell g1
  have HE2 := hid_of (HE1.out.kept K2)
  have KB := hid_of (KA.out.trans K2)
  have O2H := hid_of (JRow.of_owns O2)
  clear O2 K2 HE1 KA
  go_wp2_with fail
  refine (orderR_calls n hn ao m cap es wb HE2.out hf hrg n (Nat.le_refl _) hsucc hlen (fun t => absurd t (Nat.lt_irrefl _))).mono ?_
  rintro v wc ⟨hP, K3⟩
  have hP' : ∃ so sc, v = .returned (.tuple #[.slice so n sc, .int .i64 0]) ∧ wc.ownsRow wb.heap.size 3 1 (.slice so n sc) n (jvals (qz (ordl es n n))) := by
    rcases hP with ⟨_, t⟩ | ⟨t, _⟩
    · exact t
    · omega
  obtain ⟨so2, sc2, rfl, O3⟩ := hP'
  have J2 := hid_of (O2H.out.kept K3)
  have J3 := hid_of (JRow.of_owns O3)
  have KC := hid_of (KB.out.trans K3)
  clear K3 KB HE2 O3 O2H hP
  go_wp2_with fail
  refine (ints_calls so so2 n sc sc2 (qz (ordl es n n)) wc J2.out J3.out).mono ?_
  rintro v wd ⟨rfl, K4⟩
  have KD := hid_of (KC.out.trans K4)
  clear K4 KC J2 J3
  go_wp2_with fail
  go_ret
  exact ⟨rfl, KD.out⟩

set_option maxRecDepth 100000 in
set_option maxHeartbeats 4000000 in
theorem walkOrdersNone (n : Nat) (hn : n ≤ 1024) (ao : Option Addr) (m cap : Nat) (es : List Ed) (w : World) (h : ERow w ao m cap es) (hf : Hid (faultOf (n : Int) es = (0, 0))) (hm4 : m ≤ 4096) (hrg : Hid (∀ e ∈ es, 0 ≤ e.f ∧ e.f < (n : Int) ∧ 0 ≤ e.t ∧ e.t < (n : Int))) (N : Nat) (hN : N < n) (hsucc : Hid (∀ k, k < N → ∃ v, nextV es n (ordl es n k) = some v)) (hlen : Hid (∀ k, k ≤ N → (ordl es n k).length = k)) (hend : Hid (nextV es n (ordl es n N) = none)) :
    Calls Try.prog 4 #[.agg #[.int .i64 (n : Int), .slice ao m cap]] w fun v w' => v = .returned (.bool true) ∧ Kept w w' := by
  have hnot : ∀ (x : Bool) (w : World), (Op.unary .not (.bool x)).run Try.prog w = .ok (.bool (!x)) w := fun _ _ => rfl
  have KG : Kept w (w.alloc (Obj.cells #[.int .i64 (n : Int), .slice ao m cap] 24)) := (Kept.refl w).alloc _
  have g0 : (w.alloc (Obj.cells #[.int .i64 (n : Int), .slice ao m cap] 24)).cell? ⟨w.heap.size, 0, none⟩ = some (.int .i64 (n : Int)) := by simp [go_sem]
  have g1 : (w.alloc (Obj.cells #[.int .i64 (n : Int), .slice ao m cap] 24)).cell? ⟨w.heap.size, 1, none⟩ = some (.slice ao m cap) := by simp [go_sem]
  have HE := hid_of (h.kept KG)
  clear h
  go_enter Try.func4, Try.ntmps4
  go_wp2_with fail
  generalize hW0 : w.alloc (Obj.cells #[.int .i64 (n : Int), .slice ao m cap] 24) = W0 at KG g0 g1 HE ⊢
  clear hW0
  refine (awake_calls W0).mono ?_
  rintro v wa ⟨rfl, K1⟩
  replace g0 := K1.cell g0
  replace g1 := K1.cell g1
  have HE1 := hid_of (HE.out.kept K1)
  have KA := hid_of (KG.trans K1)
  clear K1 KG HE
  go_wp2_with fail
  refine (orderN_calls n hn ao m cap es wa HE1.out hf hm4 hrg N hN hsucc hlen hend).mono ?_
  rintro v wb ⟨b, L, cc, cl, rfl, CC, O2, K2⟩
  replace g0 := K2.cell g0
  replace g1 := K2.cell g1
  have HE2 := hid_of (HE1.out.kept K2)
  have KB := hid_of (KA.out.trans K2)
  have O2H := hid_of (JRow.of_owns O2)
  have CH := hid_of CC
  clear O2 K2 HE1 KA CC
  go_wp2_with fail
  refine (orderR_calls n hn ao m cap es wb HE2.out hf hrg N (Nat.le_of_lt hN) hsucc hlen (fun _ => hend.out)).mono ?_
  rintro v wc ⟨hP, K3⟩
  obtain rfl : v = .returned (.tuple #[.slice none 0 0, .int .i64 71]) := by
    rcases hP with ⟨t, _⟩ | ⟨_, t⟩
    · omega
    · exact t
  replace g0 := K3.cell g0
  replace g1 := K3.cell g1
  have HE3 := hid_of (HE2.out.kept K3)
  have J2 := hid_of (O2H.out.kept K3)
  have KC := hid_of (KB.out.trans K3)
  clear K3 KB HE2 O2H hP
  go_wp2_with fail
  refine (ints_calls none none 0 0 0 [] wc (JRow.nil wc) (JRow.nil wc)).mono ?_
  rintro v wd ⟨rfl, K4⟩
  replace g0 := K4.cell g0
  replace g1 := K4.cell g1
  have HE4 := hid_of (HE3.out.kept K4)
  have J4 := hid_of (J2.out.kept K4)
  have KD := hid_of (KC.out.trans K4)
  clear K4 KC J2 HE3
  go_wp2_with fail
  refine (circle_calls n hn ao m cap es wd HE4.out hrg (some ⟨b, 0, none⟩) L cc cl CH J4.out).mono ?_
  rintro v we ⟨rfl, K5⟩
  have KE := hid_of (KD.out.trans K5)
  clear K5 KD
  go_wp2_with fail
  go_ret
  exact ⟨rfl, KE.out⟩
end Go.Proofs.Ytjheiaegpoppaaa
