/- GraphTurns: the walk of the law. -/
import Derived.Test.YtnjnmgpjohfjiacTurnsA
namespace Go.Proofs.Ytnjnmgpjohfjiac
open Go.RowKit

theorem fault_eqT (c a : Int) (w : World) : (binOp .eql 37 (.agg #[.int .i64 c, .int .i64 a]) (.agg #[.int .i64 c, .int .i64 a])).run Try.prog w = .ok (.bool true) w := by
  have hp : Try.prog.stoodInHeld 37 = false := by kernel_rfl
  have hu : Try.prog.underlying 37 = some (.struct (Try.prog.fieldsOf 37)) := by simp [Program.fieldsOf, Try.underlying37]
  rw [run_eql_struct, run_equalIn_agg w 9999 37 _ _ hu hp]
  simp [Program.fieldsOf, Try.underlying37, Op.eqFields, go_sem, Try.underlying3, Try.underlying28]

theorem right_small {nodes : Int} {es : List Ed} {a : Int} (h : faultOf nodes es = (0, a)) : 0 ≤ nodes ∧ nodes ≤ 1024 ∧ es.length ≤ 4096 ∧ faultTo nodes es es.length = (0, 0) := by
  unfold faultOf at h
  split at h
  · simp at h
  · rename_i c
    exact ⟨by omega, by omega, by omega, fault_clean _ _ _ (by rw [h])⟩

set_option maxRecDepth 100000 in
set_option linter.unusedSimpArgs false in
set_option maxHeartbeats 4000000 in
theorem graphTurnsWalk (nodes v : Int) (ao : Option Addr) (n cap : Nat) (es : List Ed) (w : World) (h : ERow w ao n cap es) (hb : n * 32 ≤ 140737488355328) (hnil : ao = none → n = 0 ∧ cap = 0) :
    Calls Try.prog 8 #[.agg #[.int .i64 nodes, .slice ao n cap], .int .i64 v] w fun r w' => r = .returned (.bool true) ∧ Kept w w' := by
  obtain ⟨c, a, hf⟩ : ∃ c a, Hid (faultOf nodes es = (c, a)) := ⟨_, _, hid_of rfl⟩
  have hf2 : Hid (faultOf nodes (es.map turn) = (c, a)) := by rw [fault_turn]; exact hf.out
  have hnot : ∀ (x : Bool) (w : World), (Op.unary .not (.bool x)).run Try.prog w = .ok (.bool (!x)) w := fun _ _ => rfl
  have KG : Kept w (w.alloc (Obj.cells #[.int .i64 nodes, .slice ao n cap] 34)) := (Kept.refl w).alloc _
  have g0 : (w.alloc (Obj.cells #[.int .i64 nodes, .slice ao n cap] 34)).cell? ⟨w.heap.size, 0, none⟩ = some (.int .i64 nodes) := by simp [go_sem]
  have g1 : (w.alloc (Obj.cells #[.int .i64 nodes, .slice ao n cap] 34)).cell? ⟨w.heap.size, 1, none⟩ = some (.slice ao n cap) := by simp [go_sem]
  have FE := fault_eqT c a
  have hlen : Hid (es.length = n) := h.len.symm
  have hMT := hid_of (map_turn_turn es)
  go_enter Try.func8, Try.ntmps8
  go_wp2_with fail
  refine (awake_calls _).mono ?_
  rintro r wa ⟨rfl, K1⟩
  have ga0 := K1.cell g0
  have ga1 := K1.cell g1
  have HA := hid_of (h.kept (KG.trans K1))
  have KA := hid_of (KG.trans K1)
  clear h
  go_wp2_with fail
  refine (rev_calls nodes ao n cap es wa HA.out hb hnil).mono ?_
  rintro r wb ⟨ao1, cap1, rfl, O1, K2⟩
  have K3 := K2.alloc (Obj.cells #[.int .i64 nodes, .slice ao1 n cap1] 34)
  have d0 := K3.cell ga0
  have d1 := K3.cell ga1
  have e0 : (wb.alloc (Obj.cells #[.int .i64 nodes, .slice ao1 n cap1] 34)).cell? ⟨wb.heap.size, 0, none⟩ = some (.int .i64 nodes) := by simp [go_sem]
  have e1 : (wb.alloc (Obj.cells #[.int .i64 nodes, .slice ao1 n cap1] 34)).cell? ⟨wb.heap.size, 1, none⟩ = some (.slice ao1 n cap1) := by simp [go_sem]
  have hnil1 : ao1 = none → n = 0 ∧ cap1 = 0 := fun t => by
    subst t
    rcases O1.2 with ⟨h1, h2⟩ | ⟨g, cp, cur, h1, _⟩
    · simp only [Value.slice.injEq] at h1; exact ⟨h2, h1.2.2⟩
    · simp at h1
  have HD := hid_of (HA.out.kept K3)
  have HE := hid_of (ERow.of_owns (O1.alloc (Obj.cells #[.int .i64 nodes, .slice ao1 n cap1] 34)))
  have KB := hid_of (KA.out.trans K3)
  clear HA KA ga0 ga1 K2 K1 O1 K3
  go_wp2_with fail
  generalize wb.alloc (Obj.cells #[.int .i64 nodes, .slice ao1 n cap1] 34) = W1 at d0 d1 e0 e1 HD HE KB ⊢
  refine Ord.region [(0, 1), (2, 1), (1, 2), (3, 2), (4, 0)] (fun w' => Kept W1 w') (by kernel_rfl) (by kernel_rfl) (by kernel_rfl) (by kernel_rfl) (fun _ _ d _ _ h => by cases d <;> exact h) ((Kept.refl _).drewN _) ?_
  repeat
    refine Ord.step rfl (fun Ko hK => ?_)
    simp only [Ord.body]
    go_simp
    first
      | (refine hK _ _ ?_; clear hK Ko)
      | (refine ⟨_, fun w' hS => (by have c0 := hS.cell d0; have c1 := hS.cell d1; simp only [c0, c1, Result.andThen]; rfl), hK _ _ ?_⟩; clear hK Ko)
      | (refine ⟨_, fun w' hS => (by have c0 := hS.cell e0; have c1 := hS.cell e1; simp only [c0, c1, Result.andThen]; rfl), hK _ _ ?_⟩; clear hK Ko)
      | (go_at_call 18; refine (rev_calls nodes ao1 n cap1 (es.map turn) _ (HE.out.kept ((Kept.refl _).drewN _)) hb hnil1).mono ?_; rw [hMT.out]; rintro e we ⟨ao2, cap2, rfl, O2, K7⟩; refine ⟨((Kept.refl _).drewN _).trans K7, hK _ _ ?_⟩; clear hK Ko)
      | (go_at_call 17; refine (same_calls nodes ao2 ao n cap2 cap es _ (ERow.of_owns O2) (HD.out.kept (((Kept.refl _).drewN _).trans K7))).mono ?_; rintro e wf ⟨rfl, K8⟩; refine ⟨(((Kept.refl _).drewN _).trans K7).trans K8, hK _ _ ?_⟩; clear hK Ko)
  refine Ord.done ?_
  have K9 := (((Kept.refl W1).drewN _).trans K7).trans K8
  have a0 := K9.cell d0
  have a1 := K9.cell d1
  have b0 := K9.cell e0
  have b1 := K9.cell e1
  have HF := hid_of (HD.out.kept K9)
  have HG := hid_of (HE.out.kept K9)
  have KC := hid_of (KB.out.trans K9)
  clear HD HE KB K7 K8 O2 K9 d0 d1 e0 e1
  go_wp2_with fail
  refine (from_calls nodes ao n cap es wf HF.out hb hnil c a hf).mono ?_
  rintro r wg ⟨ptr, rfl, K10, hp1, hp2⟩
  have K11 := K10.alloc (Obj.cells #[.int .i64 c, .int .i64 a] 37)
  have u0 : (wg.alloc (Obj.cells #[.int .i64 c, .int .i64 a] 37)).cell? ⟨wg.heap.size, 0, none⟩ = some (.int .i64 c) := by simp [go_sem]
  have u1 : (wg.alloc (Obj.cells #[.int .i64 c, .int .i64 a] 37)).cell? ⟨wg.heap.size, 1, none⟩ = some (.int .i64 a) := by simp [go_sem]
  have c0 := K11.cell b0
  have c1 := K11.cell b1
  have HG2 := hid_of (HG.out.kept K11)
  have KD := hid_of (KC.out.trans K11)
  have HP2 := hid_of hp2
  have HP1 := hid_of hp1
  clear HF HG KC a0 a1 b0 b1 K10 K11 hp1 hp2
  go_wp2_with fail
  refine (from_calls nodes ao1 n cap1 (es.map turn) _ HG2.out hb hnil1 c a hf2).mono ?_
  rintro r wh ⟨ptr2, rfl, K12, hq1, hq2⟩
  have K13 := K12.alloc (Obj.cells #[.int .i64 c, .int .i64 a] 37)
  have x0 := K13.cell u0
  have x1 := K13.cell u1
  have y0 : (wh.alloc (Obj.cells #[.int .i64 c, .int .i64 a] 37)).cell? ⟨wh.heap.size, 0, none⟩ = some (.int .i64 c) := by simp [go_sem]
  have y1 : (wh.alloc (Obj.cells #[.int .i64 c, .int .i64 a] 37)).cell? ⟨wh.heap.size, 1, none⟩ = some (.int .i64 a) := by simp [go_sem]
  have lu := lt_cell (K12.cell u0)
  simp only at lu
  have KE := hid_of (KD.out.trans K13)
  have HQ1 := hid_of hq1
  have HQ2 : Hid (c = 0 → ∃ p, ptr2 = some ⟨p, 0, none⟩ ∧ ∃ B, NetAt (wh.alloc (Obj.cells #[.int .i64 c, .int .i64 a] 37)) B p nodes (es.map turn)) := fun t => by
    obtain ⟨p, e, N⟩ := hq2 t
    exact ⟨p, e, _, N.alloc _⟩
  have HP3 : Hid (c = 0 → ∃ p, ptr = some ⟨p, 0, none⟩ ∧ ∃ B, NetAt (wh.alloc (Obj.cells #[.int .i64 c, .int .i64 a] 37)) B p nodes es) := fun t => by
    obtain ⟨p, e, N⟩ := HP2.out t
    exact ⟨p, e, _, (N.alloc _).kept K13⟩
  clear HG2 KD K12 K13 hq1 hq2 HP2 c0 c1 u0 u1 g0 g1 KG hnil hnil1 hMT hf2
  by_cases hc : c = 0
  · obtain ⟨p, rfl, B, N1⟩ := HP3.out hc
    obtain ⟨p2, rfl, B2, N2⟩ := HQ2.out hc
    clear HP1 HQ1 HP3 HQ2 FE
    subst hc
    obtain ⟨hn0, hn1, hl, hft⟩ := right_small hf.out
    clear hf
    obtain ⟨zs, cc, hat⟩ : ∃ zs cc, atOf (fun e => e.f == v) nodes v es = (zs, cc) := ⟨_, _, rfl⟩
    have HAT := hid_of hat
    have HAT2 : Hid (atOf (fun e => e.t == v) nodes v (es.map turn) = (zs, cc)) := by rw [at_turn]; exact hat
    clear hat
    have N1H := hid_of N1
    have N2H := hid_of N2
    clear N1 N2
    have q1 : (cc != cc) = false := by simp
    go_wp2_with fail
    generalize wh.alloc (Obj.cells #[.int .i64 0, .int .i64 a] 37) = W2 at N1H N2H KE x0 x1 y0 y1 ⊢
    refine (out_calls W2 B p nodes v es N1H.out hl zs cc HAT).mono ?_
    rintro r wi ⟨⟨so, cp, rfl, J1⟩, K1⟩
    have HJ1 := hid_of J1
    clear x0 x1 y0 y1 lu J1
    go_wp2_with fail
    refine (in_calls wi B2 p2 nodes v (es.map turn) (N2H.out.kept K1) (by rw [List.length_map]; exact hl) zs cc HAT2).mono ?_
    rintro r wj ⟨⟨so2, cp2, rfl, J2⟩, K2⟩
    have HJ2 := hid_of J2
    clear J2
    go_wp2_with fail
    refine (ints_calls so so2 zs.length cp cp2 zs wj (HJ1.out.kept K2) HJ2.out).mono ?_
    rintro r wk ⟨rfl, K3⟩
    have N3 := hid_of (N1H.out.kept ((K1.trans K2).trans K3))
    have KF := hid_of (KE.out.trans ((K1.trans K2).trans K3))
    obtain ⟨N, rfl⟩ : ∃ N : Nat, nodes = (N : Int) := ⟨nodes.toNat, by omega⟩
    have HT := hid_of (tot_all N es es.length hft)
    clear HAT HAT2 HJ1 HJ2 K1 K2 K3 N1H N2H KE hft hlen
    generalize hE : es.length = E at *
    have HE := hid_of hE
    clear hE
    go_wp2_with fail
    go_loopw [14, 15] (fun t i wr => ∃ k : Nat, k ≤ N ∧ i = .int .i64 k ∧ t = .int .i64 ((totTo es E k : Nat) : Int) ∧ Kept wk wr) (fun _ i _ => N - (intOf i).toNat)
    case atStart => exact ⟨0, by omega, rfl, rfl, Kept.refl _⟩
    case round =>
      obtain ⟨k, hk, rfl, rfl, K⟩ := hrel
      have N4 := N3.out.kept K
      have C1 := hid_of (nodes_calls _ _ _ _ _ N4)
      have hlE : es.length ≤ 4096 := by rw [HE.out]; exact hl
      by_cases hgo : (k : Int) < (N : Int)
      · have A1 : Hid (atOf (fun e => e.f == (k : Int)) (N : Int) (k : Int) es = (whereTo (fun e => e.f == (k : Int)) es E, 0)) := by
          unfold atOf; rw [if_pos (by omega), HE.out]; exact rfl
        have A2 : Hid (atOf (fun e => e.t == (k : Int)) (N : Int) (k : Int) es = (whereTo (fun e => e.t == (k : Int)) es E, 0)) := by
          unfold atOf; rw [if_pos (by omega), HE.out]; exact rfl
        have l1 := whereTo_len (fun e => e.f == (k : Int)) es E
        have l2 := whereTo_len (fun e => e.t == (k : Int)) es E
        have l3 := tot_le es E k
        have HS : Hid (totTo es E (k + 1) = totTo es E k + ((whereTo (fun e => e.f == (k : Int)) es E).length + (whereTo (fun e => e.t == (k : Int)) es E).length)) := rfl
        generalize whereTo (fun e => e.f == (k : Int)) es E = L1 at A1 l1 HS
        generalize whereTo (fun e => e.t == (k : Int)) es E = L2 at A2 l2 HS
        have CO := hid_of (out_calls wr B p (N : Int) (k : Int) es N4 hlE L1 0 A1)
        have N4H := hid_of N4
        clear N4 A1
        generalize hT1 : totTo es E k = T at HS l3
        clear hT1
        go_wp2_with (first | (go_at_call 22; refine C1.out.mono ?_; rintro r w' ⟨rfl, rfl⟩) | (go_at_call 30; refine CO.out.mono ?_; rintro r wl1 ⟨⟨s1, cp1, rfl, J1⟩, M1⟩))
        clear J1 CO C1
        have CI := hid_of (in_calls wl1 B p (N : Int) (k : Int) es (N4H.out.kept M1) hlE L2 0 A2)
        clear A2 N4H
        go_wp2_with (go_at_call 31; refine CI.out.mono ?_; rintro r wl2 ⟨⟨s2, cp2', rfl, J2⟩, M2⟩)
        have KN := hid_of ((K.trans M1).trans M2)
        clear J2 CI M1 M2
        go_roundw
        case rel => exact ⟨k + 1, by omega, by go_num, by rw [HS.out]; first | rfl | (congr 1; omega) | (simp; omega), KN.out⟩
        case measure => simp [intOf]; omega
      · obtain rfl : k = N := by omega
        have C2 := hid_of (edges_calls _ _ _ _ _ N4)
        rw [HE.out] at C2
        rw [HT.out]
        clear N4 HT
        go_wp2_with (first | (go_at_call 22; refine C1.out.mono ?_; rintro r w' ⟨rfl, rfl⟩) | (go_at_call 23; refine C2.out.mono ?_; rintro r w' ⟨rfl, rfl⟩))
        go_ret
        exact ⟨rfl, KF.out.trans K⟩
  · obtain rfl := HP1.out hc
    obtain rfl := HQ1.out hc
    clear HP1 HQ1 HP3 HQ2
    have q : (c != 0) = true := by simpa using hc
    go_wp2_with fail
    go_ret
    exact ⟨rfl, KE.out⟩
end Go.Proofs.Ytnjnmgpjohfjiac
