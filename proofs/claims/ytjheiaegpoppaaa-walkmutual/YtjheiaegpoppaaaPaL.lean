/- Strong: the walk. -/
import Derived.Test.YtjheiaegpoppaaaPaK
namespace Go.Proofs.Ytjheiaegpoppaaa
open Go.RowKit

theorem sortA_calls (n : Nat) (hn : n ≤ 1024) (g bx gq : Nat) (q : Nat → Int) (w : World) (I : IntsAt w g n (fun v => (v : Int))) (hb : w.cell? ⟨bx, 0, none⟩ = some (.slice (some ⟨gq, 0, none⟩) n n)) (hQ : IntsAt w gq n q) (hbd : Hid (∀ v, v < n → 0 ≤ q v ∧ q v < 4096)) (hbx : ¬ bx = g) (hgq : ¬ gq = g) :
    Calls Try.prog 37 #[.slice (some ⟨g, 0, none⟩) n n, .func (.func 38) #[] #[.pointer (some ⟨bx, 0, none⟩)]] w fun r w' => r = .returned (.tuple #[]) ∧ ∃ ρl, Falling n q ρl ∧ JRow w' (some ⟨g, 0, none⟩) n n (qz ρl) ∧ Ch (fun k => k = g) w w' := by
  by_cases h0 : n = 0
  · subst h0
    have hS := AnyF.slices_SortFunc_none (P := Try.prog) (ρ := sortL_ren) { sortL with } (some ⟨g, 0, none⟩) 0 (.func (.func 38) #[] #[.pointer (some ⟨bx, 0, none⟩)]) w
    change Calls Try.prog 37 _ _ _ at hS
    refine hS.mono ?_
    rintro e w' ⟨rfl, rfl⟩
    exact ⟨rfl, [], ⟨rfl, fun r hr => absurd hr List.not_mem_nil, fun v hv => absurd hv (Nat.not_lt_zero _), fun i j _ hj => absurd hj (Nat.not_lt_zero _)⟩, ⟨rfl, Nat.le_refl _, by unfold maxLen; omega, fun h => absurd h (Nat.lt_irrefl _)⟩, Ch.refl _ _⟩
  · exact sortN_calls n (by omega) hn g bx gq q w I hb hQ hbd hbx hgq

set_option maxRecDepth 100000 in
set_option maxHeartbeats 4000000 in
theorem strongBad_calls (nodes : Int) (ao : Option Addr) (m cap : Nat) (es : List Ed) (w : World) (h : ERow w ao m cap es) (c a : Int) (hf : Hid (faultOf nodes es = (c, a))) (hb : c ≠ 0) :
    Calls Try.prog 17 #[.agg #[.int .i64 nodes, .slice ao m cap]] w fun r w' => r = .returned (.tuple #[.slice none 0 0, .int .i64 c]) ∧ Kept w w' := by
  have KG : Kept w (w.alloc (Obj.cells #[.int .i64 nodes, .slice ao m cap] 24)) := (Kept.refl w).alloc _
  have g0 : (w.alloc (Obj.cells #[.int .i64 nodes, .slice ao m cap] 24)).cell? ⟨w.heap.size, 0, none⟩ = some (.int .i64 nodes) := by simp [go_sem]
  have g1 : (w.alloc (Obj.cells #[.int .i64 nodes, .slice ao m cap] 24)).cell? ⟨w.heap.size, 1, none⟩ = some (.slice ao m cap) := by simp [go_sem]
  have HE := hid_of (h.kept KG)
  have HB := hid_of hb
  have hq : (c != 0) = true := by simpa using hb
  clear h hb
  go_enter Try.func17, Try.ntmps17
  go_wp2_with fail
  generalize hW0 : w.alloc (Obj.cells #[.int .i64 nodes, .slice ao m cap] 24) = W0 at KG g0 g1 HE ⊢
  clear hW0
  refine (visitBad_calls nodes ao m cap es W0 HE.out c a hf HB.out).mono ?_
  rintro v wa ⟨rfl, K1⟩
  have KA := hid_of ((KG.trans K1).alloc (Obj.cells #[.slice none 0 0] 26))
  clear K1 KG HE g1 g0
  go_wp2_with fail
  go_ret2
  exact ⟨rfl, KA.out⟩

set_option maxRecDepth 100000 in
set_option maxHeartbeats 8000000 in
theorem strong_calls (n : Nat) (hn : n ≤ 1024) (ao : Option Addr) (m cap : Nat) (es : List Ed) (w : World) (h : ERow w ao m cap es) (hnil : Hid (ao = none → m = 0 ∧ cap = 0)) (hf : Hid (faultOf (n : Int) es = (0, 0))) (hm4 : m ≤ 4096) (hrg : Hid (∀ e ∈ es, 0 ≤ e.f ∧ e.f < (n : Int) ∧ 0 ≤ e.t ∧ e.t < (n : Int))) :
    Calls Try.prog 17 #[.agg #[.int .i64 (n : Int), .slice ao m cap]] w fun r w' => ∃ g c cnt, r = .returned (.tuple #[.slice (some ⟨g, 0, none⟩) n n, .int .i64 0]) ∧ IntsAt w' g n c ∧ NumOf n (Mut es) c cnt ∧ w.heap.size ≤ g ∧ Kept w w' := by
  have KG : Kept w (w.alloc (Obj.cells #[.int .i64 (n : Int), .slice ao m cap] 24)) := (Kept.refl w).alloc _
  have g0 : (w.alloc (Obj.cells #[.int .i64 (n : Int), .slice ao m cap] 24)).cell? ⟨w.heap.size, 0, none⟩ = some (.int .i64 (n : Int)) := by simp [go_sem]
  have g1 : (w.alloc (Obj.cells #[.int .i64 (n : Int), .slice ao m cap] 24)).cell? ⟨w.heap.size, 1, none⟩ = some (.slice ao m cap) := by simp [go_sem]
  have HE := hid_of (h.kept KG)
  have HL := hid_of h.len
  have H0 := hid_of h
  clear h
  go_enter Try.func17, Try.ntmps17
  go_wp2_with fail
  generalize hW0 : w.alloc (Obj.cells #[.int .i64 (n : Int), .slice ao m cap] 24) = W0 at KG g0 g1 HE ⊢
  clear hW0
  refine (visit_calls n hn ao m cap es W0 HE.out hf hm4 hrg).mono ?_
  rintro v w1 ⟨gp, gq, rfl, P1, Q1, -, -, -, K1⟩
  have NS := hid_of (nested_of hrg.out)
  obtain ⟨q, hq⟩ : ∃ q, (times es n).post = q := ⟨_, rfl⟩
  rw [hq] at Q1 NS
  have KB : Kept w1 (w1.alloc (Obj.cells #[.slice (some ⟨gq, 0, none⟩) n n] 26)) := (Kept.refl w1).alloc _
  have b0 : (w1.alloc (Obj.cells #[.slice (some ⟨gq, 0, none⟩) n n] 26)).cell? ⟨w1.heap.size, 0, none⟩ = some (.slice (some ⟨gq, 0, none⟩) n n) := by simp [go_sem]
  have Q2 := hid_of (Q1.kept KB)
  replace g0 := (K1.trans KB).cell g0
  replace g1 := (K1.trans KB).cell g1
  have HE2 := hid_of (HE.out.kept (K1.trans KB))
  have K2 := hid_of (KG.trans (K1.trans KB))
  clear P1 Q1 K1 KB KG HE hq
  go_upto_region 2 with fail
  generalize hW2 : w1.alloc (Obj.cells #[.slice (some ⟨gq, 0, none⟩) n n] 26) = W2 at *
  clear hW2
  generalize w1.heap.size = bx at *
  go_wp2_with fail
  refine (upTo_calls n hn W2).mono ?_
  rintro r w3 ⟨g, rfl, I3, K3, hg3⟩
  have b3 := K3.cell b0
  have Q3 := Q2.out.kept K3
  have hbxg : ¬ bx = g := by have := lt_cell b0; simp only at this; omega
  have hgqg : ¬ gq = g := by have := Q2.out.lt; omega
  have hbgg : ¬ w.heap.size = g := by have := lt_cell g0; simp only at this; omega
  have SC := hid_of (sortA_calls n hn g bx gq q w3 I3 b3 Q3 (fun v hv => by have := NS.out.pos v hv; omega) hbxg hgqg)
  replace g0 := K3.cell g0
  replace g1 := K3.cell g1
  have HE3 := hid_of (HE2.out.kept K3)
  have K4 := hid_of (K2.out.trans K3)
  have hgW : W2.heap.size ≤ g := hg3
  clear I3 K3 b3 Q3 b0 Q2 HE2
  go_wp2_with fail
  refine SC.out.mono ?_
  rintro r w4 ⟨rfl, ρl, FA, J4, C4⟩
  have hwW : w.heap.size ≤ W2.heap.size := K2.out.size
  replace g0 := C4.cell g0 hbgg
  replace g1 := C4.cell g1 hbgg
  have K5 := hid_of (K4.out.ch C4 (fun k t => by omega))
  have JH := hid_of J4
  have FAH := hid_of FA
  have HE4 := hid_of (H0.out.kept K5.out)
  clear J4 C4 FA SC HE3 K4
  go_wp2_with fail
  refine (rev_calls (n : Int) ao m cap es w4 HE4.out (by omega) hnil.out).mono ?_
  rintro r w5 ⟨ao', cap', rfl, O5, K6⟩
  have E5 := hid_of (ERow.of_owns O5)
  have J5 := hid_of (JH.out.kept K6)
  have K7 := hid_of (K5.out.trans K6)
  clear O5 K6 JH K5
  go_wp2_with fail
  refine (next_calls n hn ao' m cap' (es.map turn) w5 E5.out (by omega) (fun e he => ⟨(turn_rg hrg.out e he).1, (turn_rg hrg.out e he).2.1⟩)).mono ?_
  rintro r w6 ⟨nq, rfl, N6, K8⟩
  have hml : m = (es.map turn).length := by rw [List.length_map]; exact HL.out
  rw [hml] at N6
  have HML := hid_of hml
  obtain ⟨hNM, cnt, hNum⟩ := strong_num hrg.out NS.out FAH.out.len FAH.out.lt FAH.out.cov FAH.out.ord
  have PC := hid_of (partsFrom_calls n hn (nxt (es.map turn) (es.map turn).length) (fun v hv => Nat.le_trans (nxt_len (es.map turn) _ v) (by rw [← HML.out]; omega)) (fun v hv t ht => (by obtain ⟨e, he, _, rfl⟩ := nxt_mem ht; have := turn_rg hrg.out e he; omega)) ρl FAH.out.len FAH.out.lt (some ⟨g, 0, none⟩) n w6 (J5.out.kept K8) nq (N6.reads (F := fun _ => False) (fun k t => t.elim)).1 (by obtain ⟨_, r, _⟩ := N6.ex; exact r.lt) hNM)
  have K9 := hid_of (K7.out.trans K8)
  have HNUM := hid_of hNum
  clear N6 K8 hNM hNum K7 J5 hml
  go_wp2_with fail
  refine PC.out.mono ?_
  rintro r w7 ⟨g', rfl, I7, K10, hg7⟩
  have FI := hid_of I7
  have FK := hid_of (K9.out.trans K10)
  have hgw : w.heap.size ≤ g' := Nat.le_trans K9.out.size hg7
  clear I7 K10 PC
  go_wp2_with fail
  go_ret2
  exact ⟨g', _, cnt, rfl, FI.out, HNUM.out, hgw, FK.out⟩
end Go.Proofs.Ytjheiaegpoppaaa
