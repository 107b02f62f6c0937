/- The document's numbers of any length: digits looked at, trimmed, made. -/
import Derived.Test.YtikmollocchfnabBase
namespace Go.Proofs.Ytikmollocchfnab
open Go.RowKit

set_option maxHeartbeats 400000 in
theorem at_calls (ao : Option Addr) (n cap : Nat) (ds : List Nat) (i : Int) (w : World) (h : Row w ao n cap ds) (h0 : 0 ≤ i) :
    Calls Try.prog 26 #[.slice ao n cap, .int .i64 i] w fun e w' => e = .returned (.int .u64 ((ds.getD i.toNat 0 : Nat) : Int)) ∧ w = w' := by
  have hl1 : n ≤ ds.length := Nat.le_of_eq h.len
  have hl2 : ds.length ≤ n := Nat.le_of_eq h.len.symm
  have hm := h.most
  have hr := h.room
  unfold maxLen at hm
  by_cases hi : i < (n : Int)
  · obtain ⟨b, off, rfl, hc⟩ := h.cell (by omega)
    have hci := hc i.toNat (by omega)
    clear hc
    generalize ((ds.getD i.toNat 0 : Nat) : Int) = d at hci ⊢
    go_enter Try.func26, Try.ntmps26
    go_wp2
    go_ret
    exact ⟨rfl, rfl⟩
  · have hd : ds.getD i.toNat 0 = 0 := by simp [List.getD, List.getElem?_eq_none (by omega : ds.length ≤ i.toNat)]
    rw [hd]
    go_enter Try.func26, Try.ntmps26
    go_wp2
    go_ret
    exact ⟨rfl, rfl⟩

set_option maxHeartbeats 400000 in
theorem trim_calls (ao : Option Addr) (n cap : Nat) (ds : List Nat) (w : World) (h : Row w ao n cap ds) (ho : Dg.Ok ds) :
    Calls Try.prog 27 #[.slice ao n cap] w fun e w' => (∃ k, e = .returned (.slice ao k cap) ∧ k ≤ n ∧ Dg.Canon (ds.take k) ∧ Dg.val (ds.take k) = Dg.val ds) ∧ w = w' := by
  have hl1 : n ≤ ds.length := Nat.le_of_eq h.len
  have hl2 : ds.length ≤ n := Nat.le_of_eq h.len.symm
  have hm := h.most
  have hr := h.room
  unfold maxLen at hm
  go_enter Try.func27, Try.ntmps27
  go_wp2
  go_loop [3] (fun i => ∃ k : Nat, k ≤ n ∧ i = .int .i64 k ∧ Dg.val (ds.take k) = Dg.val ds) (fun i => (intOf i).toNat)
  case atStart => exact ⟨n, Nat.le_refl _, rfl, by rw [List.take_of_length_le (by omega)]⟩
  case round =>
    obtain ⟨k, hk, rfl, hv⟩ := hrel
    have HV : Hid (Dg.val (ds.take k) = Dg.val ds) := hv
    clear hv
    by_cases hk0 : 0 < k
    · obtain ⟨b, off, rfl, hc⟩ := h.cell (by omega)
      have hci := hc (k - 1) (by omega)
      clear hc
      by_cases hz : ds.getD (k - 1) 0 = 0
      · rw [hz] at hci
        have HZ : Hid (ds.getD (k - 1) 0 = 0) := hz
        clear hz
        go_wp2
        go_round
        case rel =>
          refine ⟨k - 1, by omega, by go_num, ?_⟩
          have e := Dg.val_drop_zero ds (k - 1) HZ.out
          rw [show k - 1 + 1 = k from by omega, HV.out] at e
          exact e.symm
        case measure => simp [intOf]; omega
      · have HZ : Hid (ds.getD (k - 1) 0 ≠ 0) := hz
        have hb : (((ds.getD (k - 1) 0 : Nat) : Int) == 0) = false := by simp only [beq_eq_false_iff_ne]; omega
        generalize hd : ((ds.getD (k - 1) 0 : Nat) : Int) = d at hb hci
        clear hd hz
        go_wp2
        go_ret
        refine ⟨⟨k, rfl, hk, ⟨Dg.ok_take ho k, fun _ => ?_⟩, HV.out⟩, rfl⟩
        have e := HZ.out
        rw [List.length_take, Nat.min_eq_left (by omega)]
        simp only [List.getD, List.getElem?_take, if_pos (show k - 1 < k by omega)] at e ⊢
        exact e
    · obtain rfl : k = 0 := by omega
      go_wp2
      go_ret
      exact ⟨⟨0, rfl, hk, by simpa using Dg.canon_nil, HV.out⟩, rfl⟩

theorem four (x : Nat) (hx : x < 18446744073709551616) : ∃ d0 d1 d2 d3 : Nat, d0 < 65536 ∧ d1 < 65536 ∧ d2 < 65536 ∧ d3 < 65536 ∧ Dg.val [d0, d1, d2, d3] = x ∧
    bits .and .u64 (x : Int) 65535 = (d0 : Int) ∧ bits .and .u64 ((x : Int) / 65536) 65535 = (d1 : Int) ∧ bits .and .u64 ((x : Int) / 4294967296) 65535 = (d2 : Int) ∧ (x : Int) / 281474976710656 = (d3 : Int) := by
  refine ⟨x % 65536, x / 65536 % 65536, x / 4294967296 % 65536, x / 281474976710656, by omega, by omega, by omega, by omega, ?_, ?_, ?_, ?_, ?_⟩
  · simp only [Dg.val]; omega
  · have := u64_and_nat x 65535 hx (by omega)
    rw [show ((65535 : Nat) : Int) = 65535 from rfl] at this
    rw [this, Nat.and_two_pow_sub_one_eq_mod x 16]
  · have := u64_and_nat (x / 65536) 65535 (by omega) (by omega)
    rw [show ((65535 : Nat) : Int) = 65535 from rfl, show ((x / 65536 : Nat) : Int) = (x : Int) / 65536 from by omega] at this
    rw [this, Nat.and_two_pow_sub_one_eq_mod _ 16]
  · have := u64_and_nat (x / 4294967296) 65535 (by omega) (by omega)
    rw [show ((65535 : Nat) : Int) = 65535 from rfl, show ((x / 4294967296 : Nat) : Int) = (x : Int) / 4294967296 from by omega] at this
    rw [this, Nat.and_two_pow_sub_one_eq_mod _ 16]
  · omega

theorem ok_four (d0 d1 d2 d3 : Nat) (h0 : d0 < 65536) (h1 : d1 < 65536) (h2 : d2 < 65536) (h3 : d3 < 65536) : Dg.Ok [d0, d1, d2, d3] := fun i => by
  match i with
  | 0 => simpa using h0
  | 1 => simpa using h1
  | 2 => simpa using h2
  | 3 => simpa using h3
  | i + 4 => simp

set_option maxHeartbeats 400000 in
theorem natural_calls (m : Bool) (x : Nat) (w : World) (hx : x < 18446744073709551616) :
    Calls Try.prog 28 #[.bool m, .int .u64 (x : Int)] w fun e w' => ∃ v, e = .returned v ∧ BigAt w' v (if m then -(x : Int) else x) ∧ Kept w w' := by
  obtain ⟨d0, d1, d2, d3, g0, g1, g2, g3, hv, m0, m1, m2, m3⟩ := four x hx
  have HV : Hid (Dg.val [d0, d1, d2, d3] = x) := hv
  clear hv
  have hrow : ∀ c : Array Value, Row ((w.alloc (Obj.cells c 49)).alloc (Obj.cells #[Value.int .u64 (d0 : Int), Value.int .u64 (d1 : Int), Value.int .u64 (d2 : Int), Value.int .u64 (d3 : Int)] 32))
      (some ⟨w.heap.size + 1, 0, none⟩) 4 4 [d0, d1, d2, d3] := by
    intro c
    refine ⟨rfl, Nat.le_refl _, by unfold maxLen; omega, fun _ => ⟨_, _, rfl, fun i hi => ?_⟩⟩
    match i, hi with
    | 0, _ => simp [go_sem]
    | 1, _ => simp [go_sem]
    | 2, _ => simp [go_sem]
    | 3, _ => simp [go_sem]
  have hok := ok_four _ _ _ _ g0 g1 g2 g3
  rcases (by cases m <;> simp <;> omega : m = false ∨ (m = true ∧ x = 0) ∨ (m = true ∧ 0 < x)) with rfl | ⟨rfl, hp⟩ | ⟨rfl, hp⟩
  · go_enter Try.func28, Try.ntmps28
    go_wp2_with fail
    refine (trim_calls _ _ _ _ _ (hrow _) hok).mono ?_
    rintro e w' ⟨⟨k, rfl, hk, hc, hv⟩, rfl⟩
    go_wp2
    go_returns
    exact ⟨_, rfl, BigAt.mk' ((hrow _).take k hk) hc (fun h => by simp at h) (by simp [hv, HV.out]), ((Kept.refl _).alloc _).alloc _⟩
  · have hx0 : ¬ (0 : Int) < (x : Int) := by omega
    have HP : Hid (x = 0) := hp
    clear hp
    go_enter Try.func28, Try.ntmps28
    go_wp2_with fail
    refine (trim_calls _ _ _ _ _ (hrow _) hok).mono ?_
    rintro e w' ⟨⟨k, rfl, hk, hc, hv⟩, rfl⟩
    go_wp2
    go_returns
    exact ⟨_, rfl, BigAt.mk' ((hrow _).take k hk) hc (fun h => by have := HP.out; simp at h; omega) (by simp [hv, HV.out, HP.out]), ((Kept.refl _).alloc _).alloc _⟩
  · go_enter Try.func28, Try.ntmps28
    go_wp2_with fail
    refine (trim_calls _ _ _ _ _ (hrow _) hok).mono ?_
    rintro e w' ⟨⟨k, rfl, hk, hc, hv⟩, rfl⟩
    go_wp2
    go_returns
    exact ⟨_, rfl, BigAt.mk' ((hrow _).take k hk) hc (fun _ h => by rw [h] at hv; rw [HV.out] at hv; simp [Dg.val] at hv; omega) (by simp [hv, HV.out]), ((Kept.refl _).alloc _).alloc _⟩

set_option maxHeartbeats 400000 in
theorem of_calls (a : Int) (w : World) (h1 : -9223372036854775808 ≤ a) (h2 : a ≤ 9223372036854775807) :
    Calls Try.prog 18 #[.int .i64 a] w fun e w' => ∃ v, e = .returned v ∧ BigAt w' v a ∧ Kept w w' := by
  by_cases h : a < 0
  · have e1 : -(a + 1) + 1 = ((a.natAbs : Nat) : Int) := by omega
    go_enter Try.func18, Try.ntmps18
    go_wp2_with fail
    refine (natural_calls true a.natAbs _ (by omega)).mono ?_
    rintro e w' ⟨v, rfl, hb, hk⟩
    have hb' : BigAt w' v a := hb.of_eq (by simp; omega)
    clear hb
    obtain ⟨m, ao, n, cap, ds, rfl, i2, i3, i4, i5⟩ := hb'.ex
    obtain ⟨q1, q2, q3, q4, q5⟩ := box2 hk
    obtain ⟨r1, r2, r3, r4⟩ := box2w q1 q2 (.bool m) (.slice ao n cap)
    clear i5
    go_wp2
    refine bodyPost_ret (v := .agg #[.bool m, .slice ao n cap]) (by simp [results, Try.results18, go_sem, r3, r4]) rfl ⟨_, rfl, hb'.box2w q1 q2 _ _, ?_⟩
    exact ((((Kept.refl _).alloc _).trans hk).setCell (Nat.le_refl _) _).setCell (Nat.le_refl _) _
  · have e1 : a = ((a.natAbs : Nat) : Int) := by omega
    have HE : Hid (a = ((a.natAbs : Nat) : Int)) := e1
    clear e1
    go_enter Try.func18, Try.ntmps18
    go_wp2_with fail
    rw [show (Value.int IntKind.u64 a) = .int .u64 ((a.natAbs : Nat) : Int) from by rw [← HE.out]]
    refine (natural_calls false a.natAbs _ (by omega)).mono ?_
    rintro e w' ⟨v, rfl, hb, hk⟩
    have hb' : BigAt w' v a := hb.of_eq (by have := HE.out; simp; omega)
    clear hb
    obtain ⟨m, ao, n, cap, ds, rfl, i2, i3, i4, i5⟩ := hb'.ex
    obtain ⟨q1, q2, q3, q4, q5⟩ := box2 hk
    obtain ⟨r1, r2, r3, r4⟩ := box2w q1 q2 (.bool m) (.slice ao n cap)
    clear i5
    go_wp2
    refine bodyPost_ret (v := .agg #[.bool m, .slice ao n cap]) (by simp [results, Try.results18, go_sem, r3, r4]) rfl ⟨_, rfl, hb'.box2w q1 q2 _ _, ?_⟩
    exact ((((Kept.refl _).alloc _).trans hk).setCell (Nat.le_refl _) _).setCell (Nat.le_refl _) _
end Go.Proofs.Ytikmollocchfnab
