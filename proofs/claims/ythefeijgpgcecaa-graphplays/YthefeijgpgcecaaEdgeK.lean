/- Out and In of a net: the numbers of the edges that go out of a node, that come into it. -/
import Derived.Test.YthefeijgpgcecaaIntsA
namespace Go.Proofs.Ythefeijgpgcecaa
open Go.RowKit

theorem out1_calls (e : Ed) (v : Int) (b : Nat) (w : World) (h : w.cell? ⟨b, 0, none⟩ = some (.int .i64 v)) :
    Calls Try.prog 46 #[e.val, .pointer (some ⟨b, 0, none⟩)] w fun r w' => r = .returned (.bool (e.f == v)) ∧ Kept w w' := by
  obtain ⟨ef, et, ec, ek⟩ := e
  have lb := lt_cell h
  simp only at lb
  have h2 := ((Kept.refl w).alloc (Obj.cells #[.int .i64 ef, .int .i64 et, .int .i64 ec, .int .i64 ek] 36)).cell h
  go_enter Try.func46, Try.ntmps46
  go_wp2
  go_ret
  exact ⟨rfl, (Kept.refl w).alloc _⟩

theorem in1_calls (e : Ed) (v : Int) (b : Nat) (w : World) (h : w.cell? ⟨b, 0, none⟩ = some (.int .i64 v)) :
    Calls Try.prog 47 #[e.val, .pointer (some ⟨b, 0, none⟩)] w fun r w' => r = .returned (.bool (e.t == v)) ∧ Kept w w' := by
  obtain ⟨ef, et, ec, ek⟩ := e
  have lb := lt_cell h
  simp only at lb
  have h2 := ((Kept.refl w).alloc (Obj.cells #[.int .i64 ef, .int .i64 et, .int .i64 ec, .int .i64 ek] 36)).cell h
  go_enter Try.func47, Try.ntmps47
  go_wp2
  go_ret
  exact ⟨rfl, (Kept.refl w).alloc _⟩

/-- The numbers of those of the first k edges that are wanted. -/
def whereTo (p : Ed → Bool) (es : List Ed) : Nat → List Int
  | 0 => []
  | k + 1 => if p (edAt es k) = true then whereTo p es k ++ [(k : Int)] else whereTo p es k

theorem whereTo_len (p : Ed → Bool) (es : List Ed) (k : Nat) : (whereTo p es k).length ≤ k := by
  induction k with
  | zero => simp [whereTo]
  | succ k ih =>
    unfold whereTo
    split
    · rw [List.length_append]; simp only [List.length_cons, List.length_nil]; omega
    · omega

/-- The answer at a node, and at what is none. -/
def atOf (p : Ed → Bool) (nodes v : Int) (es : List Ed) : List Int × Int := if 0 ≤ v ∧ v < nodes then (whereTo p es es.length, 0) else ([], 30)

theorem jrow_nil (w : World) : JRow w none 0 0 [] := ⟨rfl, by omega, by unfold maxLen; omega, fun h => by omega⟩

set_option maxRecDepth 100000 in
set_option maxHeartbeats 2000000 in
theorem atO_calls (w : World) (B q b : Nat) (nodes v : Int) (es : List Ed) (h : NetAt w B q nodes es) (hl : es.length ≤ 4096) (fv : w.cell? ⟨b, 0, none⟩ = some (.int .i64 v)) (zs : List Int) (c : Int) (ha : Hid (atOf (fun e => e.f == v) nodes v es = (zs, c))) :
    Calls Try.prog 45 #[.pointer (some ⟨q, 0, none⟩), .int .i64 v, .func (.func 46) #[] #[.pointer (some ⟨b, 0, none⟩)]] w fun r w' =>
      (∃ ao cap, r = .returned (.tuple #[.slice ao zs.length cap, .int .i64 c]) ∧ JRow w' ao zs.length cap zs) ∧ Kept w w' := by
  have hnot : ∀ (x : Bool) (w : World), (Op.unary .not (.bool x)).run Try.prog w = .ok (.bool (!x)) w := fun _ _ => rfl
  have c0 := h.c0
  obtain ⟨ao, cap, c1, O, _⟩ := h.c1
  have HR := hid_of (ERow.of_owns O)
  have hr := HR.out.room
  have hm := HR.out.most
  unfold maxLen at hm
  obtain ⟨i0, hi, hz0, hz1, hz2⟩ := infoJ
  clear O
  have hs := ha.out
  unfold atOf at hs
  clear ha
  generalize hN : es.length = N at *
  by_cases hv : 0 ≤ v ∧ v < nodes
  · rw [if_pos hv] at hs
    simp only [Prod.mk.injEq] at hs
    obtain ⟨h1, rfl⟩ := hs
    have HZ := hid_of h1
    clear h1
    have hx : (decide (0 ≤ v) && decide (v < nodes)) = true := by simp [hv.1, hv.2]
    clear hv
    go_enter Try.func45, Try.ntmps45
    go_wp2_with (go_at_call 33; refine (isNode_calls _ _ _).mono ?_; rw [hx]; rintro e w' ⟨rfl, rfl⟩)
    go_loopw [8, 23] (fun u i wr => ∃ k : Nat, k ≤ N ∧ i = .int .i64 k ∧ wr.ownsRow w.heap.size 3 1 u (whereTo (fun e => e.f == v) es k).length (jvals (whereTo (fun e => e.f == v) es k)) ∧ Kept w wr) (fun _ i _ => N - (intOf i).toNat)
    case atStart => exact ⟨0, by omega, rfl, World.ownsRow_nil _ _ _ _, Kept.refl _⟩
    case round =>
      obtain ⟨k, hk, rfl, OW, K⟩ := hrel
      by_cases hgo : (k : Int) < (N : Int)
      · obtain ⟨b2, off, rfl, hc⟩ := HR.out.cell (by omega)
        obtain ⟨d1, d2, d3, d4⟩ := hc k (by omega)
        have d1 := K.cell d1
        have d2 := K.cell d2
        have d3 := K.cell d3
        have d4 := K.cell d4
        clear hc
        have hw : Hid (whereTo (fun e => e.f == v) es (k + 1) = if ((edAt es k).f == v) = true then whereTo (fun e => e.f == v) es k ++ [(k : Int)] else whereTo (fun e => e.f == v) es k) := rfl
        have hwl := whereTo_len (fun e => e.f == v) es k
        generalize edAt es k = e at d1 d2 d3 d4 hw
        generalize hL : whereTo (fun e => e.f == v) es k = L at OW hw hwl
        have CC := hid_of (fun (w : World) (t : w.cell? ⟨b, 0, none⟩ = some (.int .i64 v)) => out1_calls e v b w t)
        obtain ⟨ef, et, ec, ek⟩ := e
        simp only at d1 d2 d3 d4 hw CC
        generalize (ef == v) = pe at hw CC
        have KE := K.alloc (Obj.cells #[.int .i64 ef, .int .i64 et, .int .i64 ec, .int .i64 ek] 36)
        have fe := KE.cell fv
        have hLs := hid_of hL
        have OW1 := OW.alloc (Obj.cells #[.int .i64 ef, .int .i64 et, .int .i64 ec, .int .i64 ek] 36)
        clear hL OW
        cases pe
        · have E1 : Hid (whereTo (fun e => e.f == v) es (k + 1) = L) := by rw [hw.out, if_neg (by simp)]; exact rfl
          clear hw
          go_wp2_with fail
          refine (CC.out _ fe).mono ?_
          rintro r wb ⟨rfl, K2⟩
          have OW2 := hid_of (OW1.kept (grown_of_kept K2 none) (by cases e : u8.ownBlock <;> simp))
          have KN := hid_of (KE.trans K2)
          clear OW1 K2 KE fe d1 d2 d3 d4 CC K
          go_wp2_with fail
          go_roundw
          case rel => exact ⟨k + 1, by omega, by go_num, by rw [E1.out]; exact OW2.out, KN.out⟩
          case measure => simp [intOf]; omega
        · have E1 : Hid (whereTo (fun e => e.f == v) es (k + 1) = L ++ [(k : Int)]) := by rw [hw.out, if_pos rfl]; exact rfl
          clear hw
          go_wp2_with fail
          refine (CC.out _ fe).mono ?_
          rintro r wb ⟨rfl, K2⟩
          have OW2 := OW1.kept (grown_of_kept K2 none) (by cases e : u8.ownBlock <;> simp)
          have KN := KE.trans K2
          have bw : w.heap.size ≤ wb.heap.size := KN.size
          clear OW1 K2 KE fe d1 d2 d3 d4 CC K
          go_wp2_with (at_builtin; refine wpList_append_own _ rfl _ _ 78 rfl w.heap.size 3 i0 (.int .i64 0) 1 8 Try.underlying78 hi hz0 hz1 hz2 rfl (by decide) _ _ _ rfl (OW2.alloc _) ⟨wb.heap.size, 0, none⟩ 1 1 [.int .i64 (k : Int)] rfl rfl (cell_newj _ _ _) (by intro u hu; simp at hu; subst hu; rfl) (by unfold maxLen; omega) (by omega) (by simp; omega) ?_)
          intro u' w1 hown hgrow _
          have O3 : Hid (w1.ownsRow w.heap.size 3 1 u' (whereTo (fun e => e.f == v) es (k + 1)).length (jvals (whereTo (fun e => e.f == v) es (k + 1)))) := by
            rw [E1.out, ← jvals_snoc, List.length_append]; exact hown
          have K3 := hid_of (Below.grown (KN.alloc _) hgrow (KN.alloc _).size (fun j hj => (OW2.lt j hj).1))
          clear hown hgrow OW2 KN
          go_wp2_with fail
          go_roundw
          case rel => exact ⟨k + 1, by omega, by go_num, O3.out, K3.out⟩
          case measure => simp [intOf]; omega
      · obtain rfl : k = N := by omega
        obtain ⟨so, cp, rfl⟩ := owns_slice1j OW
        have HJ := hid_of (JRow.of_owns OW)
        clear OW
        rw [HZ.out] at HJ ⊢
        clear HZ
        go_wp2_with fail
        go_ret2
        exact ⟨⟨so, cp, rfl, HJ.out⟩, K⟩
  · rw [if_neg hv] at hs
    simp only [Prod.mk.injEq] at hs
    obtain ⟨rfl, rfl⟩ := hs
    have hx : (decide (0 ≤ v) && decide (v < nodes)) = false := by simp; omega
    clear hv
    go_enter Try.func45, Try.ntmps45
    go_wp2_with (go_at_call 33; refine (isNode_calls _ _ _).mono ?_; rw [hx]; rintro e w' ⟨rfl, rfl⟩)
    go_ret2
    exact ⟨⟨none, 0, rfl, jrow_nil _⟩, Kept.refl w⟩
end Go.Proofs.Ythefeijgpgcecaa
