/- The document's Supplies, Pots, Reduced, Total. -/
import Derived.Test.YtomopfjaebcpeaaPrI
import Derived.Test.YtomopfjaebcpeaaRfA
namespace Go.Proofs.Ytomopfjaebcpeaa
open Go.RowKit

open Classical in
/-- The code of supplies. -/
noncomputable def supCode (nodes : Int) (es : List Ed) (sup : List Int) (ms : Nat) : Int :=
  if (faultOf nodes es).1 ≠ 0 then (faultOf nodes es).1 else if ¬ SupOk sup ms nodes.toNat then 130 else 0

set_option maxRecDepth 100000 in
set_option linter.unusedSimpArgs false in
set_option maxHeartbeats 2000000 in
theorem supR_calls (nodes : Int) (ao : Option Addr) (n cap : Nat) (es : List Ed) (bo : Option Addr) (ms bc : Nat) (sup : List Int) (w : World) (h : ERow w ao n cap es) (hJ : JRow w bo ms bc sup) (z : Int) (hz : Hid (supCode nodes es sup ms = z)) :
    Calls Try.prog 42 #[.agg #[.int .i64 nodes, .slice ao n cap], .slice bo ms bc] w fun e w' => e = .returned (.int .i64 z) ∧ Kept w w' := by
  obtain ⟨c, a, hf⟩ : ∃ c a, faultOf nodes es = (c, a) := ⟨_, _, rfl⟩
  have hz' := hz.out
  unfold supCode at hz'
  rw [hf] at hz'
  have hr2 := hJ.room
  have hm2 := hJ.most
  unfold maxLen at hm2
  have KW : Kept w (w.alloc (Obj.cells #[.int .i64 nodes, .slice ao n cap] 24)) := (Kept.refl w).alloc _
  have w0 : (w.alloc (Obj.cells #[.int .i64 nodes, .slice ao n cap] 24)).cell? ⟨w.heap.size, 0, none⟩ = some (.int .i64 nodes) := by simp [go_sem]
  have CH := hid_of (checkR_calls nodes ao n cap es _ (h.kept KW) c a (hid_of hf))
  have HJ := hid_of hJ
  clear h hJ hz
  by_cases hc : c = 0
  rotate_left
  · rw [if_pos hc] at hz'
    subst hz'
    have q : (c != 0) = true := by simpa using hc
    clear hc hf
    go_enter Try.func42, Try.ntmps42
    go_wp2_with fail
    refine CH.out.mono ?_
    rintro e wa ⟨rfl, K1⟩
    have HK := hid_of (KW.trans K1)
    clear KW K1 CH w0
    go_wp2
    go_ret
    exact ⟨rfl, HK.out⟩
  subst hc
  rw [if_neg (by simp)] at hz'
  obtain ⟨N, rfl, RG⟩ := right_of (fault_zero (by rw [hf]))
  have hN := RG.nodes
  simp only [Int.toNat_natCast] at hz'
  clear RG hf
  have HZ := hid_of hz'
  clear hz'
  by_cases hmn : ms = N
  rotate_left
  · have hz2 := HZ.out
    rw [if_pos (fun t => hmn t.1)] at hz2
    subst hz2
    have q : ((ms : Int) != (N : Int)) = true := by simp; omega
    clear HZ
    go_enter Try.func42, Try.ntmps42
    go_wp2_with fail
    refine CH.out.mono ?_
    rintro e wa ⟨rfl, K1⟩
    have HK := hid_of (KW.trans K1)
    replace w0 := K1.cell w0
    clear KW K1 CH
    go_wp2
    go_ret
    exact ⟨rfl, HK.out⟩
  subst hmn
  have q : ((ms : Int) != (ms : Int)) = false := by simp
  go_enter Try.func42, Try.ntmps42
  go_wp2_with fail
  refine CH.out.mono ?_
  rintro e wa ⟨rfl, K1⟩
  have HK := hid_of (KW.trans K1)
  replace w0 := K1.cell w0
  clear KW K1 CH
  go_wp2_with fail
  go_loopw [7, 8] (fun sum i wr => ∃ (k : Nat), k ≤ ms ∧ i = .int .i64 k ∧ sum = .int .i64 (sm (zAt sup) k) ∧ wa = wr ∧ ∀ j, j < k → -1048576 ≤ zAt sup j ∧ zAt sup j ≤ 1048576) (fun _ i _ => ms - (intOf i).toNat)
  case atStart => exact ⟨0, by omega, rfl, rfl, rfl, fun i hi => by omega⟩
  case round =>
    obtain ⟨k, hk, rfl, rfl, rfl, hno⟩ := hrel
    have HNO := hid_of hno
    have sb := sm_bd (f := zAt sup) (k := k) (B := 1048576) hno
    clear hno
    by_cases hgo : (k : Int) < (ms : Int)
    · obtain ⟨b2, off2, rfl, hc2⟩ := (HJ.out.kept HK.out).at (by omega)
      have d5 := hc2 k (by omega)
      clear hc2
      have HIT : Hid ((-1048576 ≤ zAt sup k ∧ zAt sup k ≤ 1048576) → ∀ j, j < k + 1 → -1048576 ≤ zAt sup j ∧ zAt sup j ≤ 1048576) := fun hb i hi => by
        by_cases e : i = k
        · subst e; exact hb
        · exact HNO.out i (by omega)
      have MISS : Hid (¬ (-1048576 ≤ zAt sup k ∧ zAt sup k ≤ 1048576) → z = 130) := fun hb => by
        rw [← HZ.out, if_pos (fun t => hb (t.2.1 k (by omega)))]
      have SU := hid_of (sm_succ (zAt sup) k)
      have sb1 : -1073741824 ≤ sm (zAt sup) k := by omega
      have sb2 : sm (zAt sup) k ≤ 1073741824 := by omega
      clear sb
      generalize sm (zAt sup) k = sum at SU sb1 sb2
      generalize zAt sup k = x at d5 HIT MISS SU
      clear HJ
      by_cases hx : -1048576 ≤ x
      · have g1 : decide (x < -1048576) = false := by simpa using hx
        by_cases hy : x ≤ 1048576
        · have g2 : decide (1048576 < x) = false := by simpa using hy
          have P := hid_of (HIT.out ⟨hx, hy⟩)
          have WR : IntKind.i64.wrap (sum + x) = sum + x := wrap_id (by omega) (by omega)
          clear HIT MISS
          go_wp2_with fail
          go_roundw
          case rel => exact ⟨k + 1, by omega, by go_num, by rw [SU.out], by trivial, P.out⟩
          case measure => simp [intOf]; omega
        · have g2 : decide (1048576 < x) = true := by simp; omega
          obtain rfl := MISS.out (fun t => hy t.2)
          clear HIT MISS
          go_wp2_with fail
          go_ret
          exact ⟨rfl, HK.out⟩
      · have g1 : decide (x < -1048576) = true := by simp; omega
        obtain rfl := MISS.out (fun t => hx t.1)
        clear HIT MISS
        go_wp2_with fail
        go_ret
        exact ⟨rfl, HK.out⟩
    · obtain rfl : k = ms := by omega
      clear sb
      have hz2 := HZ.out
      by_cases h0 : sm (zAt sup) k = 0
      · rw [if_neg (fun t => t ⟨rfl, HNO.out, h0⟩)] at hz2
        subst hz2
        have q0 : (sm (zAt sup) k != 0) = false := by simpa using h0
        clear h0 HZ
        go_wp2_with fail
        go_ret
        exact ⟨rfl, HK.out⟩
      · rw [if_pos (fun t => h0 t.2.2)] at hz2
        subst hz2
        have q0 : (sm (zAt sup) k != 0) = true := by simpa using h0
        clear h0 HZ
        go_wp2_with fail
        go_ret
        exact ⟨rfl, HK.out⟩

set_option maxRecDepth 100000 in
set_option linter.unusedSimpArgs false in
set_option maxHeartbeats 2000000 in
theorem potsR_calls (N : Nat) (s : Value) (bo : Option Addr) (m bc : Nat) (pot : List Int) (w : World) (hJ : JRow w bo m bc pot) :
    Calls Try.prog 62 #[.agg #[.int .i64 (N : Int), s], .slice bo m bc] w fun e w' => Kept w w' ∧ ((PotsOk pot m N ∧ e = .returned (.bool true)) ∨ (¬ PotsOk pot m N ∧ e = .returned (.bool false))) := by
  have hr2 := hJ.room
  have hm2 := hJ.most
  unfold maxLen at hm2
  have KW : Kept w (w.alloc (Obj.cells #[.int .i64 (N : Int), s] 24)) := (Kept.refl w).alloc _
  have w0 : (w.alloc (Obj.cells #[.int .i64 (N : Int), s] 24)).cell? ⟨w.heap.size, 0, none⟩ = some (.int .i64 (N : Int)) := by simp [go_sem]
  have HJ := hid_of (hJ.kept KW)
  clear hJ
  by_cases hmn : m = N
  rotate_left
  · have q : ((m : Int) != (N : Int)) = true := by simp; omega
    go_enter Try.func62, Try.ntmps62
    go_wp2
    go_ret
    exact ⟨KW, .inr ⟨fun t => hmn t.1, rfl⟩⟩
  subst hmn
  have q : ((m : Int) != (m : Int)) = false := by simp
  go_enter Try.func62, Try.ntmps62
  go_wp2_with fail
  generalize w.alloc (Obj.cells #[.int .i64 (m : Int), s] 24) = W1 at KW HJ w0 ⊢
  go_loopw [5] (fun i wr => ∃ (k : Nat), k ≤ m ∧ i = .int .i64 k ∧ W1 = wr ∧ ∀ j, j < k → -4398046511104 ≤ zAt pot j ∧ zAt pot j ≤ 4398046511104) (fun i _ => m - (intOf i).toNat)
  case atStart => exact ⟨0, by omega, rfl, rfl, fun i hi => by omega⟩
  case round =>
    obtain ⟨k, hk, rfl, rfl, hno⟩ := hrel
    have HNO := hid_of hno
    clear hno
    by_cases hgo : (k : Int) < (m : Int)
    · obtain ⟨b2, off2, rfl, hc2⟩ := HJ.out.at (by omega)
      have d5 := hc2 k (by omega)
      clear hc2
      have HIT : Hid ((-4398046511104 ≤ zAt pot k ∧ zAt pot k ≤ 4398046511104) → ∀ j, j < k + 1 → -4398046511104 ≤ zAt pot j ∧ zAt pot j ≤ 4398046511104) := fun hb i hi => by
        by_cases e : i = k
        · subst e; exact hb
        · exact HNO.out i (by omega)
      have MISS : Hid (¬ (-4398046511104 ≤ zAt pot k ∧ zAt pot k ≤ 4398046511104) → ¬ PotsOk pot m m) := fun hb t => hb (t.2 k (by omega))
      generalize zAt pot k = x at d5 HIT MISS
      clear HJ
      by_cases hx : -4398046511104 ≤ x
      · have g1 : decide (x < -4398046511104) = false := by simpa using hx
        by_cases hy : x ≤ 4398046511104
        · have g2 : decide (4398046511104 < x) = false := by simpa using hy
          have P := hid_of (HIT.out ⟨hx, hy⟩)
          clear HIT MISS
          go_wp2_with fail
          go_roundw
          case rel => exact ⟨k + 1, by omega, by go_num, by trivial, P.out⟩
          case measure => simp [intOf]; omega
        · have g2 : decide (4398046511104 < x) = true := by simp; omega
          have P := hid_of (MISS.out (fun t => hy t.2))
          clear HIT MISS
          go_wp2_with fail
          go_ret
          exact ⟨KW, .inr ⟨P.out, rfl⟩⟩
      · have g1 : decide (x < -4398046511104) = true := by simp; omega
        have P := hid_of (MISS.out (fun t => hx t.1))
        clear HIT MISS
        go_wp2_with fail
        go_ret
        exact ⟨KW, .inr ⟨P.out, rfl⟩⟩
    · obtain rfl : k = m := by omega
      go_wp2_with fail
      go_ret
      exact ⟨KW, .inl ⟨⟨rfl, HNO.out⟩, rfl⟩⟩

set_option maxRecDepth 100000 in
set_option linter.unusedSimpArgs false in
set_option maxHeartbeats 1000000 in
theorem reducedR_calls (e : Ed) (N : Nat) (bo : Option Addr) (bc : Nat) (pot : List Int) (w : World) (hJ : JRow w bo N bc pot) (h1 : 0 ≤ e.f) (h2 : e.f < (N : Int)) (h3 : 0 ≤ e.t) (h4 : e.t < (N : Int)) (h5 : -1048576 ≤ e.k) (h6 : e.k ≤ 1048576)
    (hp : ∀ i, i < N → -4398046511104 ≤ zAt pot i ∧ zAt pot i ≤ 4398046511104) :
    Calls Try.prog 63 #[e.val, .slice bo N bc] w fun v w' => v = .returned (.int .i64 (e.k + zAt pot e.f.toNat - zAt pot e.t.toNat)) ∧ Kept w w' := by
  obtain ⟨f, t, c, k⟩ := e
  simp only at h1 h2 h3 h4 h5 h6
  have KW := (Kept.refl w).alloc (Obj.cells #[.int .i64 f, .int .i64 t, .int .i64 c, .int .i64 k] 98)
  have hr2 := hJ.room
  have hm2 := hJ.most
  unfold maxLen at hm2
  obtain ⟨b2, off2, rfl, hc2⟩ := (hJ.kept KW).at (by omega)
  have d1 := hc2 f.toNat (by omega)
  have d2 := hc2 t.toNat (by omega)
  obtain ⟨p1, p2⟩ := hp f.toNat (by omega)
  obtain ⟨p3, p4⟩ := hp t.toNat (by omega)
  obtain ⟨fn, rfl⟩ : ∃ fn : Nat, f = (fn : Int) := ⟨f.toNat, by omega⟩
  obtain ⟨tn, rfl⟩ : ∃ tn : Nat, t = (tn : Int) := ⟨t.toNat, by omega⟩
  have w0 : (w.alloc (Obj.cells #[.int .i64 (fn : Int), .int .i64 (tn : Int), .int .i64 c, .int .i64 k] 98)).cell? ⟨w.heap.size, 0, none⟩ = some (.int .i64 (fn : Int)) := by simp [go_sem]
  have w1 : (w.alloc (Obj.cells #[.int .i64 (fn : Int), .int .i64 (tn : Int), .int .i64 c, .int .i64 k] 98)).cell? ⟨w.heap.size, 1, none⟩ = some (.int .i64 (tn : Int)) := by simp [go_sem]
  have w3 : (w.alloc (Obj.cells #[.int .i64 (fn : Int), .int .i64 (tn : Int), .int .i64 c, .int .i64 k] 98)).cell? ⟨w.heap.size, 3, none⟩ = some (.int .i64 k) := by simp [go_sem]
  simp only [Int.toNat_natCast] at d1 d2 p1 p2 p3 p4 ⊢
  generalize zAt pot fn = x at d1 p1 p2 ⊢
  generalize zAt pot tn = y at d2 p3 p4 ⊢
  clear hc2 hp hJ
  go_enter Try.func63, Try.ntmps63
  go_wp2_with fail
  generalize w.alloc (Obj.cells #[.int .i64 (fn : Int), .int .i64 (tn : Int), .int .i64 c, .int .i64 k] 98) = W1 at KW d1 d2 w0 w1 w3 ⊢
  refine Ord.region [(0, 0), (1, 1), (2, 0), (3, 0), (4, 1), (5, 0), (6, 1), (7, 0), (8, 0), (9, 0), (10, 1), (11, 0), (12, 1), (13, 0), (14, 0)] (fun w' => Kept W1 w') (by kernel_rfl) (by kernel_rfl) (by kernel_rfl) (by kernel_rfl) (fun _ _ d _ _ h => by cases d <;> exact h) ((Kept.refl _).drewN _) ?_
  repeat
    refine Ord.step rfl (fun Ko hK => ?_)
    simp only [Ord.body]
    go_simp
    first
      | (refine hK _ _ ?_; clear hK Ko)
      | (refine ⟨_, fun w' hS => (by have c0 := hS.cell d1; have c1 := hS.cell d2; have c2 := hS.cell w0; have c3 := hS.cell w1; have c4 := hS.cell w3; simp only [c0, c1, c2, c3, c4, Result.andThen]; rfl), hK _ _ ?_⟩; clear hK Ko)
  refine Ord.done ?_
  have WR : IntKind.i64.wrap (IntKind.i64.wrap (k + x) - y) = k + x - y := by rw [wrap_id (x := k + x) (by omega) (by omega), wrap_id (by omega) (by omega)]
  rw [WR]
  go_wp2
  go_ret
  exact ⟨rfl, KW.drewN _⟩


set_option maxRecDepth 100000 in
set_option linter.unusedSimpArgs false in
set_option maxHeartbeats 2000000 in
theorem totalR_calls (nodes : Int) (ao : Option Addr) (N n cap : Nat) (es : List Ed) (bo : Option Addr) (bc : Nat) (on : List Int) (w : World) (h : ERow w ao n cap es) (hJ : JRow w bo n bc on) (RG : Right N n es) (ho : ∀ i, i < n → 0 ≤ zAt on i ∧ zAt on i ≤ 1048576) :
    Calls Try.prog 34 #[.agg #[.int .i64 nodes, .slice ao n cap], .slice bo n bc] w fun e w' => e = .returned (.int .i64 (costTo es (zAt on) n)) ∧ Kept w w' := by
  have hr := h.room
  have hm := h.most
  have hr2 := hJ.room
  have hm2 := hJ.most
  unfold maxLen at hm hm2
  have hn := RG.edges
  have KW : Kept w (w.alloc (Obj.cells #[.int .i64 nodes, .slice ao n cap] 24)) := (Kept.refl w).alloc _
  have w1 : (w.alloc (Obj.cells #[.int .i64 nodes, .slice ao n cap] 24)).cell? ⟨w.heap.size, 1, none⟩ = some (.slice ao n cap) := by simp [go_sem]
  have HE := hid_of (h.kept KW)
  have HB := hid_of (hJ.kept KW)
  have RGH := hid_of RG
  have HO := hid_of ho
  clear h hJ RG ho
  go_enter Try.func34, Try.ntmps34
  go_wp2_with fail
  generalize w.alloc (Obj.cells #[.int .i64 nodes, .slice ao n cap] 24) = W1 at KW HE HB w1 ⊢
  go_loopw [5, 6] (fun s i wr => ∃ (k : Nat), k ≤ n ∧ i = .int .i64 k ∧ s = .int .i64 (costTo es (zAt on) k) ∧ Kept W1 wr) (fun _ i _ => n - (intOf i).toNat)
  case atStart => exact ⟨0, by omega, rfl, rfl, Kept.refl _⟩
  case round =>
    obtain ⟨k, hk, rfl, rfl, K⟩ := hrel
    by_cases hgo : (k : Int) < (n : Int)
    · obtain ⟨b, off, rfl, hc⟩ := HE.out.cell (by omega)
      obtain ⟨c1, c2, c3, c4⟩ := hc k (by omega)
      obtain ⟨s1, s2⟩ := cost_bd RGH.out (zAt on) HO.out k hk
      obtain ⟨l1, l2⟩ := RGH.out.costs k (by omega)
      obtain ⟨l3, l4⟩ := HO.out k (by omega)
      obtain ⟨b2, off2, rfl, hc2⟩ := HB.out.at (by omega)
      have SU := hid_of (cost_succ es (zAt on) k)
      have d1 := K.cell w1
      have d4 := K.cell c4
      have d5 := K.cell (hc2 k (by omega))
      clear hc c1 c2 c3 c4 hc2 HE HB
      generalize costTo es (zAt on) k = sum at s1 s2 SU
      generalize zAt on k = x at d5 l3 l4 SU
      generalize edAt es k = e at d4 l1 l2 SU
      obtain ⟨ef, et, ec, ek⟩ := e
      simp only at d4 l1 l2 SU
      obtain ⟨p1, p2⟩ := mul_bd (X := 1048576) (Y := 1048576) (by omega) l1 l2 l3 l4
      have WR : IntKind.i64.wrap (sum + IntKind.i64.wrap (ek * x)) = sum + ek * x := by rw [wrap_id (x := ek * x) (by omega) (by omega), wrap_id (by omega) (by omega)]
      clear p1 p2 l1 l2 l3 l4 s1 s2
      go_wp2_with fail
      refine Ord.region [(0, 0), (1, 0), (2, 1), (3, 0), (4, 0), (5, 0), (6, 1), (7, 0), (8, 0), (9, 0), (10, 1), (11, 0), (12, 0), (13, 0)] (fun w' => Kept wr w') (by kernel_rfl) (by kernel_rfl) (by kernel_rfl) (by kernel_rfl) (fun _ _ d _ _ h => by cases d <;> exact h) ((Kept.refl _).drewN _) ?_
      repeat
        refine Ord.step rfl (fun Ko hK => ?_)
        simp only [Ord.body]
        go_simp
        first
          | (refine hK _ _ ?_; clear hK Ko)
          | (refine ⟨_, fun w' hS => (by have c0 := hS.cell d1; have c1 := hS.cell d4; have c2 := hS.cell d5; simp only [c0, c1, c2, Result.andThen]; rfl), hK _ _ ?_⟩; clear hK Ko)
      refine Ord.done ?_
      go_wp2
      go_roundw
      case rel => exact ⟨k + 1, by omega, by go_num, by rw [SU.out], K.drewN _⟩
      case measure => simp [intOf]; omega
    · obtain rfl : k = n := by omega
      go_wp2
      go_ret
      exact ⟨rfl, KW.trans K⟩
end Go.Proofs.Ytomopfjaebcpeaa
