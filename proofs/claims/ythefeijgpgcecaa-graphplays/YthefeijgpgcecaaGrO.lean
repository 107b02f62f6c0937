/- The document's Out and In. -/
import Derived.Test.YthefeijgpgcecaaGrN
import Derived.Test.YthefeijgpgcecaaEdgeL
namespace Go.Proofs.Ythefeijgpgcecaa
open Go.RowKit

theorem edAt_turn (es : List Ed) (k : Nat) (hk : k < es.length) : edAt (es.map turn) k = turn (edAt es k) := by
  simp [edAt, List.getD, hk]

theorem where_turn (v : Int) (es : List Ed) (k : Nat) (hk : k ≤ es.length) : whereTo (fun e => e.f == v) (es.map turn) k = whereTo (fun e => e.t == v) es k := by
  induction k with
  | zero => rfl
  | succ k ih =>
    unfold whereTo
    rw [ih (by omega), edAt_turn es k (by omega)]
    rfl

set_option maxRecDepth 100000 in
set_option maxHeartbeats 2000000 in
theorem outR_calls (nodes : Int) (ao : Option Addr) (n cap : Nat) (es : List Ed) (v : Int) (w : World) (h : ERow w ao n cap es) (hb : n ≤ 4096) (zs : List Int) (hzs : Hid (whereTo (fun e => e.f == v) es n = zs)) :
    Calls Try.prog 42 #[.agg #[.int .i64 nodes, .slice ao n cap], .int .i64 v] w fun r w' => (∃ ao' cap', r = .returned (.slice ao' zs.length cap') ∧ JRow w' ao' zs.length cap' zs) ∧ Kept w w' := by
  have hr := h.room
  have hm := h.most
  unfold maxLen at hm
  obtain ⟨i0, hi, hz0, hz1, hz2⟩ := infoJ
  have KG : Kept w (w.alloc (Obj.cells #[.int .i64 nodes, .slice ao n cap] 24)) := (Kept.refl w).alloc _
  have g1 : (w.alloc (Obj.cells #[.int .i64 nodes, .slice ao n cap] 24)).cell? ⟨w.heap.size, 1, none⟩ = some (.slice ao n cap) := by simp [go_sem]
  have HR := hid_of (h.kept KG)
  clear h
  go_enter Try.func42, Try.ntmps42
  go_wp2_with fail
  generalize w.alloc (Obj.cells #[.int .i64 nodes, .slice ao n cap] 24) = W1 at KG g1 HR ⊢
  go_loopw [5, 6] (fun u i wr => ∃ k : Nat, k ≤ n ∧ i = .int .i64 k ∧ wr.ownsRow W1.heap.size 3 1 u (whereTo (fun e => e.f == v) es k).length (jvals (whereTo (fun e => e.f == v) es k)) ∧ Kept W1 wr) (fun _ i _ => n - (intOf i).toNat)
  case atStart => exact ⟨0, by omega, rfl, World.ownsRow_nil _ _ _ _, Kept.refl _⟩
  case round =>
    obtain ⟨k, hk, rfl, OW, K⟩ := hrel
    have p1 := K.cell g1
    by_cases hgo : (k : Int) < (n : Int)
    · obtain ⟨b2, off, rfl, hc⟩ := HR.out.cell (by omega)
      obtain ⟨d1, -, -, -⟩ := hc k (by omega)
      replace d1 := K.cell d1
      clear hc
      have hw : Hid (whereTo (fun e => e.f == v) es (k + 1) = if ((edAt es k).f == v) = true then whereTo (fun e => e.f == v) es k ++ [(k : Int)] else whereTo (fun e => e.f == v) es k) := rfl
      have hwl := whereTo_len (fun e => e.f == v) es k
      generalize (edAt es k).f = ef at d1 hw
      generalize hL : whereTo (fun e => e.f == v) es k = L at OW hw hwl
      have hLs := hid_of hL
      clear hL
      by_cases hv : ef = v
      · subst hv
        have q : (ef == ef) = true := by simp
        have E1 : Hid (whereTo (fun e => e.f == ef) es (k + 1) = L ++ [(k : Int)]) := by rw [hw.out, if_pos q]; exact rfl
        have bw : W1.heap.size ≤ wr.heap.size := K.size
        have OWH := hid_of OW
        have KH := hid_of K
        clear hw hLs OW K
        go_wp2_with (at_builtin; refine wpList_append_own _ rfl _ _ 78 rfl W1.heap.size 3 i0 (.int .i64 0) 1 8 Try.underlying78 hi hz0 hz1 hz2 rfl (by decide) _ _ _ rfl (OWH.out.alloc _) ⟨wr.heap.size, 0, none⟩ 1 1 [.int .i64 (k : Int)] rfl rfl (cell_newj _ _ _) (by intro u hu; simp at hu; subst hu; rfl) (by unfold maxLen; omega) (by omega) (by simp; omega) ?_)
        intro u' w1 hown hgrow _
        have O3 : Hid (w1.ownsRow W1.heap.size 3 1 u' (whereTo (fun e => e.f == ef) es (k + 1)).length (jvals (whereTo (fun e => e.f == ef) es (k + 1)))) := by
          rw [E1.out, ← jvals_snoc, List.length_append]; exact hown
        have K3 := hid_of (Below.grown (KH.out.alloc _) hgrow (KH.out.alloc _).size (fun j hj => (OWH.out.lt j hj).1))
        clear hown hgrow OWH KH
        go_wp2_with fail
        go_roundw
        case rel => exact ⟨k + 1, by omega, by go_num, O3.out, K3.out⟩
        case measure => simp [intOf]; omega
      · have q : (ef == v) = false := by simpa using hv
        have O3 : Hid (wr.ownsRow W1.heap.size 3 1 u5 (whereTo (fun e => e.f == v) es (k + 1)).length (jvals (whereTo (fun e => e.f == v) es (k + 1)))) := by
          rw [hw.out, if_neg (by simp [q])]; exact OW
        have KH := hid_of K
        clear hw hLs OW K
        go_wp2_with fail
        go_roundw
        case rel => exact ⟨k + 1, by omega, by go_num, O3.out, KH.out⟩
        case measure => simp [intOf]; omega
    · obtain rfl : k = n := by omega
      obtain ⟨so, cp, rfl⟩ := owns_slice1j OW
      have HJ := hid_of (JRow.of_owns OW)
      have KH := hid_of (KG.trans K)
      clear OW K KG
      rw [hzs.out] at HJ ⊢
      clear hzs
      go_wp2_with fail
      go_ret
      exact ⟨⟨so, cp, rfl, HJ.out⟩, KH.out⟩

set_option maxRecDepth 100000 in
set_option maxHeartbeats 2000000 in
theorem inR_calls (nodes : Int) (ao : Option Addr) (n cap : Nat) (es : List Ed) (v : Int) (w : World) (h : ERow w ao n cap es) (hb : n ≤ 4096) (zs : List Int) (hzs : Hid (whereTo (fun e => e.t == v) es n = zs)) :
    Calls Try.prog 43 #[.agg #[.int .i64 nodes, .slice ao n cap], .int .i64 v] w fun r w' => (∃ ao' cap', r = .returned (.slice ao' zs.length cap') ∧ JRow w' ao' zs.length cap' zs) ∧ Kept w w' := by
  have KG : Kept w (w.alloc (Obj.cells #[.int .i64 nodes, .slice ao n cap] 24)) := (Kept.refl w).alloc _
  have g0 : (w.alloc (Obj.cells #[.int .i64 nodes, .slice ao n cap] 24)).cell? ⟨w.heap.size, 0, none⟩ = some (.int .i64 nodes) := by simp [go_sem]
  have g1 : (w.alloc (Obj.cells #[.int .i64 nodes, .slice ao n cap] 24)).cell? ⟨w.heap.size, 1, none⟩ = some (.slice ao n cap) := by simp [go_sem]
  have HR := hid_of (h.kept KG)
  have HT : Hid (whereTo (fun e => e.f == v) (es.map turn) n = zs) := by
    rw [where_turn v es n (Nat.le_of_eq h.len)]
    exact hzs.out
  clear h hzs
  go_enter Try.func43, Try.ntmps43
  go_wp2_with fail
  generalize w.alloc (Obj.cells #[.int .i64 nodes, .slice ao n cap] 24) = W1 at KG g0 g1 HR ⊢
  refine (revR_calls nodes ao n cap es W1 HR.out (by omega)).mono ?_
  rintro r w2 ⟨ao2, cap2, rfl, O2, K2⟩
  have HE := hid_of (ERow.of_owns O2)
  have KH := hid_of (KG.trans K2)
  clear O2 K2 KG g0 g1 HR
  go_wp2_with fail
  refine (outR_calls nodes ao2 n cap2 (es.map turn) v w2 HE.out hb zs HT).mono ?_
  rintro r w3 ⟨⟨ao3, cap3, rfl, J3⟩, K3⟩
  have JH := hid_of J3
  have KZ := hid_of (KH.out.trans K3)
  clear J3 K3 KH HE
  go_wp2_with fail
  go_ret
  exact ⟨⟨ao3, cap3, rfl, JH.out⟩, KZ.out⟩
end Go.Proofs.Ythefeijgpgcecaa
