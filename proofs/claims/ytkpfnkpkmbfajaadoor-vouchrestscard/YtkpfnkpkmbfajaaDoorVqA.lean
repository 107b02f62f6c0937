/- The document's Costs. -/
import Derived.Test.YtkpfnkpkmbfajaaDoorVpD
namespace Go.Proofs.YtkpfnkpkmbfajaaDoor
open Go.RowKit

open Classical in
/-- The code of a graph with its costs. -/
noncomputable def costCode (nodes : Int) (es : List Ed) (n : Nat) : Int := if (faultOf nodes es).1 ≠ 0 then (faultOf nodes es).1 else if ¬ NoMinus es n then 80 else 0

set_option maxRecDepth 100000 in
set_option linter.unusedSimpArgs false in
set_option maxHeartbeats 2000000 in
theorem costsR_calls (nodes : Int) (ao : Option Addr) (n cap : Nat) (es : List Ed) (w : World) (h : ERow w ao n cap es) (z : Int) (hz : Hid (costCode nodes es n = z)) :
    Calls Tryd.prog 46 #[.agg #[.int .i64 nodes, .slice ao n cap]] w fun e w' => e = .returned (.int .i64 z) ∧ Kept w w' := by
  obtain ⟨c, a, hf⟩ : ∃ c a, faultOf nodes es = (c, a) := ⟨_, _, rfl⟩
  have hz' := hz.out
  unfold costCode at hz'
  rw [hf] at hz'
  have hr := h.room
  have hm := h.most
  unfold maxLen at hm
  have KW : Kept w (w.alloc (Obj.cells #[.int .i64 nodes, .slice ao n cap] 24)) := (Kept.refl w).alloc _
  have w0 : (w.alloc (Obj.cells #[.int .i64 nodes, .slice ao n cap] 24)).cell? ⟨w.heap.size, 0, none⟩ = some (.int .i64 nodes) := by simp [go_sem]
  have w1 : (w.alloc (Obj.cells #[.int .i64 nodes, .slice ao n cap] 24)).cell? ⟨w.heap.size, 1, none⟩ = some (.slice ao n cap) := by simp [go_sem]
  have CH := hid_of (checkR_calls nodes ao n cap es _ (h.kept KW) c a (hid_of hf))
  have HE := hid_of h
  clear h hz
  by_cases hc : c = 0
  rotate_left
  · rw [if_pos hc] at hz'
    subst hz'
    have q : (c == 0) = false := by simpa using hc
    clear hc hf
    go_enter Tryd.func46, Tryd.ntmps46
    go_wp2_with fail
    refine CH.out.mono ?_
    rintro e wa ⟨rfl, K1⟩
    have HK := hid_of (KW.trans K1)
    clear KW K1 CH w0 w1
    go_wp2_with fail
    go_loopw [3, 5] (fun s i wr => i = .int .i64 0 ∧ s = .int .i64 c ∧ wa = wr) (fun _ _ _ => 0)
    case atStart => exact ⟨rfl, rfl, rfl⟩
    case round =>
      obtain ⟨rfl, rfl, rfl⟩ := hrel
      go_wp2
      go_ret
      exact ⟨rfl, HK.out⟩
  subst hc
  rw [if_neg (by simp)] at hz'
  have HZ := hid_of hz'
  clear hz' hf
  go_enter Tryd.func46, Tryd.ntmps46
  go_wp2_with fail
  refine CH.out.mono ?_
  rintro e wa ⟨rfl, K1⟩
  have HK := hid_of (KW.trans K1)
  replace w1 := K1.cell w1
  clear KW K1 CH w0
  go_wp2_with fail
  go_loopw [3, 5] (fun s i wr => wa = wr ∧ ((∃ (k : Nat), k ≤ n ∧ i = .int .i64 k ∧ s = .int .i64 0 ∧ ∀ j, j < k → 0 ≤ (edAt es j).k) ∨ (∃ (k : Nat), k ≤ n ∧ i = .int .i64 k ∧ s = .int .i64 80 ∧ ¬ NoMinus es n))) (fun s i _ => (n - (intOf i).toNat) )
  case atStart => exact ⟨rfl, .inl ⟨0, by omega, rfl, rfl, fun i hi => by omega⟩⟩
  case round =>
    obtain ⟨rfl, hrel⟩ := hrel
    rcases hrel with ⟨k, hk, rfl, rfl, hno⟩ | ⟨k, hk, rfl, rfl, hno⟩
    · have HNO := hid_of hno
      clear hno
      by_cases hgo : (k : Int) < (n : Int)
      · obtain ⟨b, off, rfl, hc⟩ := (HE.out.kept HK.out).cell (by omega)
        obtain ⟨d1, d2, d3, d4⟩ := hc k (by omega)
        have HIT : Hid (0 ≤ (edAt es k).k → ∀ j, j < k + 1 → 0 ≤ (edAt es j).k) := fun hb i hi => by
          by_cases e : i = k
          · subst e; exact hb
          · exact HNO.out i (by omega)
        have MISS : Hid (¬ 0 ≤ (edAt es k).k → ¬ NoMinus es n) := fun hb q => hb (q k (by omega))
        clear hc d1 d2 d3
        generalize (edAt es k).k = x at d4 HIT MISS
        by_cases hx : 0 ≤ x
        · have P := hid_of (HIT.out hx)
          have q0 : decide (x < 0) = false := decide_eq_false (by omega)
          clear HIT MISS hx
          go_wp2_with fail
          go_roundw
          case rel => exact ⟨by trivial, .inl ⟨k + 1, by omega, by go_num, rfl, P.out⟩⟩
          case measure => simp [intOf]; omega
        · have P := hid_of (MISS.out hx)
          have q0 : decide (x < 0) = true := decide_eq_true (by omega)
          clear HIT MISS hx
          go_wp2_with fail
          go_roundw
          case rel => exact ⟨by trivial, .inr ⟨k + 1, by omega, by go_num, rfl, P.out⟩⟩
          case measure => simp [intOf]; omega
      · obtain rfl : k = n := by omega
        have e := HZ.out
        rw [if_neg (fun t => t (show NoMinus es k from HNO.out))] at e
        subst e
        clear HZ
        go_wp2
        go_ret
        exact ⟨rfl, HK.out⟩
    · have e := HZ.out
      rw [if_pos hno] at e
      subst e
      clear HZ hno
      go_wp2
      go_ret
      exact ⟨rfl, HK.out⟩

end Go.Proofs.YtkpfnkpkmbfajaaDoor
