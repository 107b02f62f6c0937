/- What CutNode asks of an edge; without; slices.IndexFunc with it. -/
import Derived.Test.YthefeijgpgcecaaGrE
namespace Go.Proofs.Ythefeijgpgcecaa
open Go.RowKit

/-- Is an edge at a node? -/
def atNode (v : Int) (e : Ed) : Bool := e.f == v || e.t == v

set_option maxRecDepth 100000 in
theorem cn1_calls (e : Ed) (v : Int) (b : Nat) (w : World) (h : w.cell? ⟨b, 0, none⟩ = some (.int .i64 v)) :
    Calls Try.prog 35 #[e.val, .pointer (some ⟨b, 0, none⟩)] w fun r w' => r = .returned (.bool (atNode v e)) ∧ Kept w w' := by
  obtain ⟨ef, et, ec, ek⟩ := e
  have lb := lt_cell h
  simp only at lb
  have h2 := ((Kept.refl w).alloc (Obj.cells #[.int .i64 ef, .int .i64 et, .int .i64 ec, .int .i64 ek] 36)).cell h
  unfold atNode
  simp only
  cases hq : (ef == v)
  · go_enter Try.func35, Try.ntmps35
    go_wp2
    go_ret
    exact ⟨by simp, (Kept.refl w).alloc _⟩
  · go_enter Try.func35, Try.ntmps35
    go_wp2
    go_ret
    exact ⟨by simp, (Kept.refl w).alloc _⟩

/-- A node's number when another is gone. -/
def moveOf (v u : Int) : Int := if v < u then u - 1 else u

theorem without_calls (v u : Int) (w : World) (hu : -9223372036854775808 < u) (hu2 : u ≤ 9223372036854775807) : Calls Try.prog 36 #[.int .i64 v, .int .i64 u] w fun r w' => r = .returned (.int .i64 (moveOf v u)) ∧ w = w' := by
  unfold moveOf
  by_cases h : v < u
  · rw [if_pos h]
    go_enter Try.func36, Try.ntmps36
    go_wp2
    go_ret
    exact ⟨rfl, rfl⟩
  · rw [if_neg h]
    go_enter Try.func36, Try.ntmps36
    go_wp2
    go_ret
    exact ⟨rfl, rfl⟩

theorem moved_calls (v u : Int) (w : World) (hu : -9223372036854775808 < u) (hu2 : u ≤ 9223372036854775807) : Calls Try.prog 38 #[.int .i64 u, .int .i64 v] w fun r w' => r = .returned (.int .i64 (moveOf v u)) ∧ w = w' := by
  unfold moveOf
  by_cases h : v < u
  · rw [if_pos h]
    go_enter Try.func38, Try.ntmps38
    go_wp2
    go_ret
    exact ⟨rfl, rfl⟩
  · rw [if_neg h]
    go_enter Try.func38, Try.ntmps38
    go_wp2
    go_ret
    exact ⟨rfl, rfl⟩

/-- The place of the first edge at a node, or -1. -/
def FirstAt (v : Int) (es : List Ed) (n : Nat) (r : Int) : Prop :=
  (r = -1 ∧ ∀ i, i < n → atNode v (edAt es i) = false) ∨ ∃ k : Nat, k < n ∧ r = (k : Int) ∧ atNode v (edAt es k) = true ∧ ∀ i, i < k → atNode v (edAt es i) = false

set_option maxRecDepth 100000 in
set_option maxHeartbeats 2000000 in
theorem index_calls (w : World) (ao : Option Addr) (n cap b : Nat) (v : Int) (es : List Ed) (h : ERow w ao n cap es) (fv : w.cell? ⟨b, 0, none⟩ = some (.int .i64 v)) :
    Calls Try.prog 44 #[.slice ao n cap, .func (.func 35) #[] #[.pointer (some ⟨b, 0, none⟩)]] w fun r w' => (∃ x, r = .returned (.int .i64 x) ∧ FirstAt v es n x) ∧ Kept w w' := by
  have hr := h.room
  have hm := h.most
  unfold maxLen at hm
  have HR := hid_of h
  clear h
  go_enter Try.func44, Try.ntmps44
  go_wp2_with fail
  go_loopw [8] (fun i wr => ∃ k : Nat, k ≤ n ∧ i = .int .i64 (k : Int) ∧ (∀ i, i < k → atNode v (edAt es i) = false) ∧ Kept w wr) (fun i _ => n - (intOf i).toNat)
  case atStart => exact ⟨0, by omega, rfl, fun i hi => by omega, Kept.refl _⟩
  case round =>
    obtain ⟨k, hk, rfl, hno, K⟩ := hrel
    have NO := hid_of hno
    clear hno
    by_cases hgo : (k : Int) < (n : Int)
    · obtain ⟨b2, off, rfl, hc⟩ := HR.out.cell (by omega)
      obtain ⟨d1, d2, d3, d4⟩ := hc k (by omega)
      have d1 := K.cell d1
      have d2 := K.cell d2
      have d3 := K.cell d3
      have d4 := K.cell d4
      clear hc
      have fe := K.cell fv
      have CC := hid_of (cn1_calls (edAt es k) v b wr fe)
      have EQ : Hid (∃ q, atNode v (edAt es k) = q) := ⟨_, rfl⟩
      obtain ⟨q, hq⟩ := EQ.out
      rw [hq] at CC
      have HQ := hid_of hq
      have KH := hid_of K
      clear hq EQ
      generalize edAt es k = e at d1 d2 d3 d4 CC
      obtain ⟨ef, et, ec, ek⟩ := e
      simp only at d1 d2 d3 d4
      cases q
      · have NO2 : Hid (∀ i, i < k + 1 → atNode v (edAt es i) = false) := fun i hi => by
          by_cases t : i = k
          · rw [t]; exact HQ.out
          · exact NO.out i (by omega)
        clear K
        go_wp2_with fail
        refine CC.out.mono ?_
        rintro r wb ⟨rfl, K2⟩
        have KN := hid_of (KH.out.trans K2)
        clear d1 d2 d3 d4 CC fe K2 KH
        go_wp2_with fail
        go_roundw
        case rel => exact ⟨k + 1, by omega, by go_num, NO2.out, KN.out⟩
        case measure => simp [intOf]; omega
      · clear K
        go_wp2_with fail
        refine CC.out.mono ?_
        rintro r wb ⟨rfl, K2⟩
        have KN := hid_of (KH.out.trans K2)
        have FA : Hid (FirstAt v es n (k : Int)) := .inr ⟨k, by omega, rfl, HQ.out, NO.out⟩
        clear d1 d2 d3 d4 CC fe K2 KH
        go_wp2_with fail
        refine bodyPost_ret (v := .int .i64 (k : Int)) (by simp [results, Try.results44, go_sem]) rfl ⟨⟨_, rfl, FA.out⟩, KN.out⟩
    · obtain rfl : k = n := by omega
      have FA : Hid (FirstAt v es k (-1)) := .inl ⟨rfl, NO.out⟩
      have KH := hid_of K
      clear K NO
      go_wp2_with fail
      refine bodyPost_ret (v := .int .i64 (-1)) (by simp [results, Try.results44, go_sem]) rfl ⟨⟨_, rfl, FA.out⟩, KH.out⟩
end Go.Proofs.Ythefeijgpgcecaa
