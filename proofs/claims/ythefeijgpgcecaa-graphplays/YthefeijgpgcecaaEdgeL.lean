/- In's closure and edgesAt with it; Out and In of a net. -/
import Derived.Test.YthefeijgpgcecaaEdgeK
namespace Go.Proofs.Ythefeijgpgcecaa
open Go.RowKit

set_option maxRecDepth 100000 in
set_option maxHeartbeats 2000000 in
theorem atI_calls (w : World) (B q b : Nat) (nodes v : Int) (es : List Ed) (h : NetAt w B q nodes es) (hl : es.length ≤ 4096) (fv : w.cell? ⟨b, 0, none⟩ = some (.int .i64 v)) (zs : List Int) (c : Int) (ha : Hid (atOf (fun e => e.t == v) nodes v es = (zs, c))) :
    Calls Try.prog 45 #[.pointer (some ⟨q, 0, none⟩), .int .i64 v, .func (.func 47) #[] #[.pointer (some ⟨b, 0, none⟩)]] w fun r w' =>
      (∃ ao cap, r = .returned (.tuple #[.slice ao zs.length cap, .int .i64 c]) ∧ JRow w' ao zs.length cap zs) ∧ Kept w w' := by
  have hnot : ∀ (x : Bool) (w : World), (Op.unary .not (.bool x)).run Try.prog w = .ok (.bool (!x)) w := fun _ _ => rfl
  have c0 := h.c0
  obtain ⟨ao, cap, c1, O, _⟩ := h.c1
  have HR := hid_of (ERow.of_owns O)
  have hr := HR.out.room
  have hm := HR.out.most
  unfold maxLen at hm
  obtain ⟨i0, hi, hz0, hz1, hz2⟩ := infoJ
  clear O
  have hs := ha.out
  unfold atOf at hs
  clear ha
  generalize hN : es.length = N at *
  by_cases hv : 0 ≤ v ∧ v < nodes
  · rw [if_pos hv] at hs
    simp only [Prod.mk.injEq] at hs
    obtain ⟨h1, rfl⟩ := hs
    have HZ := hid_of h1
    clear h1
    have hx : (decide (0 ≤ v) && decide (v < nodes)) = true := by simp [hv.1, hv.2]
    clear hv
    go_enter Try.func45, Try.ntmps45
    go_wp2_with (go_at_call 33; refine (isNode_calls _ _ _).mono ?_; rw [hx]; rintro e w' ⟨rfl, rfl⟩)
    go_loopw [8, 23] (fun u i wr => ∃ k : Nat, k ≤ N ∧ i = .int .i64 k ∧ wr.ownsRow w.heap.size 3 1 u (whereTo (fun e => e.t == v) es k).length (jvals (whereTo (fun e => e.t == v) es k)) ∧ Kept w wr) (fun _ i _ => N - (intOf i).toNat)
    case atStart => exact ⟨0, by omega, rfl, World.ownsRow_nil _ _ _ _, Kept.refl _⟩
    case round =>
      obtain ⟨k, hk, rfl, OW, K⟩ := hrel
      by_cases hgo : (k : Int) < (N : Int)
      · obtain ⟨b2, off, rfl, hc⟩ := HR.out.cell (by omega)
        obtain ⟨d1, d2, d3, d4⟩ := hc k (by omega)
        have d1 := K.cell d1
        have d2 := K.cell d2
        have d3 := K.cell d3
        have d4 := K.cell d4
        clear hc
        have hw : Hid (whereTo (fun e => e.t == v) es (k + 1) = if ((edAt es k).t == v) = true then whereTo (fun e => e.t == v) es k ++ [(k : Int)] else whereTo (fun e => e.t == v) es k) := rfl
        have hwl := whereTo_len (fun e => e.t == v) es k
        generalize edAt es k = e at d1 d2 d3 d4 hw
        generalize hL : whereTo (fun e => e.t == v) es k = L at OW hw hwl
        have CC := hid_of (fun (w : World) (t : w.cell? ⟨b, 0, none⟩ = some (.int .i64 v)) => in1_calls e v b w t)
        obtain ⟨ef, et, ec, ek⟩ := e
        simp only at d1 d2 d3 d4 hw CC
        generalize (et == v) = pe at hw CC
        have KE := K.alloc (Obj.cells #[.int .i64 ef, .int .i64 et, .int .i64 ec, .int .i64 ek] 36)
        have fe := KE.cell fv
        have hLs := hid_of hL
        have OW1 := OW.alloc (Obj.cells #[.int .i64 ef, .int .i64 et, .int .i64 ec, .int .i64 ek] 36)
        clear hL OW
        cases pe
        · have E1 : Hid (whereTo (fun e => e.t == v) es (k + 1) = L) := by rw [hw.out, if_neg (by simp)]; exact rfl
          clear hw
          go_wp2_with fail
          refine (CC.out _ fe).mono ?_
          rintro r wb ⟨rfl, K2⟩
          have OW2 := hid_of (OW1.kept (grown_of_kept K2 none) (by cases e : u8.ownBlock <;> simp))
          have KN := hid_of (KE.trans K2)
          clear OW1 K2 KE fe d1 d2 d3 d4 CC K
          go_wp2_with fail
          go_roundw
          case rel => exact ⟨k + 1, by omega, by go_num, by rw [E1.out]; exact OW2.out, KN.out⟩
          case measure => simp [intOf]; omega
        · have E1 : Hid (whereTo (fun e => e.t == v) es (k + 1) = L ++ [(k : Int)]) := by rw [hw.out, if_pos rfl]; exact rfl
          clear hw
          go_wp2_with fail
          refine (CC.out _ fe).mono ?_
          rintro r wb ⟨rfl, K2⟩
          have OW2 := OW1.kept (grown_of_kept K2 none) (by cases e : u8.ownBlock <;> simp)
          have KN := KE.trans K2
          have bw : w.heap.size ≤ wb.heap.size := KN.size
          clear OW1 K2 KE fe d1 d2 d3 d4 CC K
          go_wp2_with (at_builtin; refine wpList_append_own _ rfl _ _ 78 rfl w.heap.size 3 i0 (.int .i64 0) 1 8 Try.underlying78 hi hz0 hz1 hz2 rfl (by decide) _ _ _ rfl (OW2.alloc _) ⟨wb.heap.size, 0, none⟩ 1 1 [.int .i64 (k : Int)] rfl rfl (cell_newj _ _ _) (by intro u hu; simp at hu; subst hu; rfl) (by unfold maxLen; omega) (by omega) (by simp; omega) ?_)
          intro u' w1 hown hgrow _
          have O3 : Hid (w1.ownsRow w.heap.size 3 1 u' (whereTo (fun e => e.t == v) es (k + 1)).length (jvals (whereTo (fun e => e.t == v) es (k + 1)))) := by
            rw [E1.out, ← jvals_snoc, List.length_append]; exact hown
          have K3 := hid_of (Below.grown (KN.alloc _) hgrow (KN.alloc _).size (fun j hj => (OW2.lt j hj).1))
          clear hown hgrow OW2 KN
          go_wp2_with fail
          go_roundw
          case rel => exact ⟨k + 1, by omega, by go_num, O3.out, K3.out⟩
          case measure => simp [intOf]; omega
      · obtain rfl : k = N := by omega
        obtain ⟨so, cp, rfl⟩ := owns_slice1j OW
        have HJ := hid_of (JRow.of_owns OW)
        clear OW
        rw [HZ.out] at HJ ⊢
        clear HZ
        go_wp2_with fail
        go_ret2
        exact ⟨⟨so, cp, rfl, HJ.out⟩, K⟩
  · rw [if_neg hv] at hs
    simp only [Prod.mk.injEq] at hs
    obtain ⟨rfl, rfl⟩ := hs
    have hx : (decide (0 ≤ v) && decide (v < nodes)) = false := by simp; omega
    clear hv
    go_enter Try.func45, Try.ntmps45
    go_wp2_with (go_at_call 33; refine (isNode_calls _ _ _).mono ?_; rw [hx]; rintro e w' ⟨rfl, rfl⟩)
    go_ret2
    exact ⟨⟨none, 0, rfl, jrow_nil _⟩, Kept.refl w⟩

set_option maxRecDepth 100000 in
set_option maxHeartbeats 2000000 in
theorem out_calls (w : World) (B q : Nat) (nodes v : Int) (es : List Ed) (h : NetAt w B q nodes es) (hl : es.length ≤ 4096) (zs : List Int) (c : Int) (ha : Hid (atOf (fun e => e.f == v) nodes v es = (zs, c))) :
    Calls Try.prog 39 #[.pointer (some ⟨q, 0, none⟩), .int .i64 v] w fun r w' =>
      (∃ ao cap, r = .returned (.tuple #[.slice ao zs.length cap, .int .i64 c]) ∧ JRow w' ao zs.length cap zs) ∧ Kept w w' := by
  have KW : Kept w (w.alloc (Obj.cells #[.int .i64 v] 3)) := (Kept.refl w).alloc _
  have y0 : (w.alloc (Obj.cells #[.int .i64 v] 3)).cell? ⟨w.heap.size, 0, none⟩ = some (.int .i64 v) := by simp [go_sem]
  have H1 := h.alloc (Obj.cells #[.int .i64 v] 3)
  clear h
  go_enter Try.func39, Try.ntmps39
  go_wp2_with fail
  generalize w.alloc (Obj.cells #[.int .i64 v] 3) = W1 at KW y0 H1 ⊢
  have CC := hid_of (fun m => atO_calls (W1.drewN m) B q w.heap.size nodes v es (H1.kept ((Kept.refl _).drewN m)) hl (((Kept.refl W1).drewN m).cell y0) zs c ha)
  clear ha
  refine Ord.region [(0, 0), (1, 0), (2, 0), (3, 1), (4, 2), (5, 2), (6, 0), (7, 0), (8, 0), (9, 0)] (fun w' => Kept W1 w') (by kernel_rfl) (by kernel_rfl) (by kernel_rfl) (by kernel_rfl) (fun _ _ d _ _ h => by cases d <;> exact h) ((Kept.refl _).drewN _) ?_
  repeat
    refine Ord.step rfl (fun Ko hK => ?_)
    simp only [Ord.body]
    go_simp
    first
      | (refine hK _ _ ?_; clear hK Ko)
      | (refine ⟨_, fun w' hS => (by have c0 := hS.cell y0; simp only [c0, Result.andThen]; rfl), hK _ _ ?_⟩; clear hK Ko)
      | (refine ⟨(Kept.refl _).drewN _, hK _ _ ?_⟩; clear hK Ko)
      | (go_at_call 45; refine (CC.out _).mono ?_; rintro e wf ⟨⟨ao, cap, rfl, J⟩, K6⟩; refine ⟨((Kept.refl _).drewN _).trans K6, hK _ _ ?_⟩; clear hK Ko)
  refine Ord.done ?_
  have KN := KW.trans (((Kept.refl W1).drewN _).trans K6)
  have HJ := hid_of J
  clear J K6 CC
  go_wp2_with fail
  go_ret2
  exact ⟨⟨ao, cap, rfl, HJ.out⟩, KN⟩

set_option maxRecDepth 100000 in
set_option maxHeartbeats 2000000 in
theorem in_calls (w : World) (B q : Nat) (nodes v : Int) (es : List Ed) (h : NetAt w B q nodes es) (hl : es.length ≤ 4096) (zs : List Int) (c : Int) (ha : Hid (atOf (fun e => e.t == v) nodes v es = (zs, c))) :
    Calls Try.prog 40 #[.pointer (some ⟨q, 0, none⟩), .int .i64 v] w fun r w' =>
      (∃ ao cap, r = .returned (.tuple #[.slice ao zs.length cap, .int .i64 c]) ∧ JRow w' ao zs.length cap zs) ∧ Kept w w' := by
  have KW : Kept w (w.alloc (Obj.cells #[.int .i64 v] 3)) := (Kept.refl w).alloc _
  have y0 : (w.alloc (Obj.cells #[.int .i64 v] 3)).cell? ⟨w.heap.size, 0, none⟩ = some (.int .i64 v) := by simp [go_sem]
  have H1 := h.alloc (Obj.cells #[.int .i64 v] 3)
  clear h
  go_enter Try.func40, Try.ntmps40
  go_wp2_with fail
  generalize w.alloc (Obj.cells #[.int .i64 v] 3) = W1 at KW y0 H1 ⊢
  have CC := hid_of (fun m => atI_calls (W1.drewN m) B q w.heap.size nodes v es (H1.kept ((Kept.refl _).drewN m)) hl (((Kept.refl W1).drewN m).cell y0) zs c ha)
  clear ha
  refine Ord.region [(0, 0), (1, 0), (2, 0), (3, 1), (4, 2), (5, 2), (6, 0), (7, 0), (8, 0), (9, 0)] (fun w' => Kept W1 w') (by kernel_rfl) (by kernel_rfl) (by kernel_rfl) (by kernel_rfl) (fun _ _ d _ _ h => by cases d <;> exact h) ((Kept.refl _).drewN _) ?_
  repeat
    refine Ord.step rfl (fun Ko hK => ?_)
    simp only [Ord.body]
    go_simp
    first
      | (refine hK _ _ ?_; clear hK Ko)
      | (refine ⟨_, fun w' hS => (by have c0 := hS.cell y0; simp only [c0, Result.andThen]; rfl), hK _ _ ?_⟩; clear hK Ko)
      | (refine ⟨(Kept.refl _).drewN _, hK _ _ ?_⟩; clear hK Ko)
      | (go_at_call 45; refine (CC.out _).mono ?_; rintro e wf ⟨⟨ao, cap, rfl, J⟩, K6⟩; refine ⟨((Kept.refl _).drewN _).trans K6, hK _ _ ?_⟩; clear hK Ko)
  refine Ord.done ?_
  have KN := KW.trans (((Kept.refl W1).drewN _).trans K6)
  have HJ := hid_of J
  clear J K6 CC
  go_wp2_with fail
  go_ret2
  exact ⟨⟨ao, cap, rfl, HJ.out⟩, KN⟩
end Go.Proofs.Ythefeijgpgcecaa
